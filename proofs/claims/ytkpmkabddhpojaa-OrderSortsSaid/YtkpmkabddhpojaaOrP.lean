/- Layer 14: contracts of the document's Sort, Stuck, Reach. -/
import Derived.Test.YtkpmkabddhpojaaOrO
set_option linter.unusedVariables false
set_option linter.unusedSimpArgs false
namespace Go.Proofs.Ytkpmkabddhpojaa.Or
open Go Go.Proofs.Ytkpmkabddhpojaa Go.RowKit Go.Op
set_option maxRecDepth 100000

theorem infoS : (Try.prog.info? 9).map (fun i => (i.zero, i.size, i.bytes)) = some (some (.string ByteArray.empty), 1, 16) := by kernel_rfl
theorem row_heap {w : World} {g : Nat} {cs : List Value} {e : TypeId} (n : Nat) (h : w.heap[g]? = some (.cells cs.toArray e)) (hn : cs.length = n) (hl : n ≤ 1000000000) : Row 1 w (.slice (some ⟨g, 0, none⟩) n n) n cs := by
  refine ⟨⟨_, n, rfl, Nat.le_refl _, by unfold maxLen; omega, by omega, (fun e => by cases e), fun _ => ⟨g, 0, rfl, fun j u hj => ?_⟩⟩, by omega⟩
  rw [Lib.cell_of_heap h]
  simpa using hj
theorem make_strs (n : Nat) (hn : n ≤ 1000000000) (w : World) :
    ∃ w', (Instr.makeSlice 22 (.int .i64 (n : Int)) (.int .i64 (n : Int))).run Try.prog w = .ok (.slice (some ⟨w.heap.size, 0, none⟩) n n) w' ∧ Strs w' (.slice (some ⟨w.heap.size, 0, none⟩) n n) (List.replicate n []) ∧ Below w.heap.size w w' := by
  obtain ⟨i, hi, hz, hs, hb⟩ := info3 infoS
  have h4 := run_make (P := Try.prog) w 22 9 i _ Try.underlying22 hi hz .i64 .i64 n n (by omega) (Int.le_refl _) (by rw [hb]; omega) (by omega)
  simp only [Int.toNat_natCast, hs] at h4
  refine ⟨_, h4, ?_, ba (b0 w) _⟩
  have hh := heap_alloc_new w (.cells (madeCells (Value.string ByteArray.empty).cells (n * 1)) 9)
  have e1 : madeCells (Value.string ByteArray.empty).cells (n * 1) = (strsOf (List.replicate n [])).toArray := by
    apply Array.toList_inj.1
    rw [cells_made _ rfl]
    simp [strsOf]; exact .inr rfl
  rw [e1] at hh ⊢
  unfold Strs
  rw [List.length_replicate]
  exact row_heap n hh (by simp [strsOf]) hn
theorem byname_plain (n : Nat) : ByName (List.replicate n []) (List.range n) := by
  refine ⟨by rw [List.length_replicate]; exact line_range n, ?_⟩
  refine List.pairwise_lt_range.imp fun {a b} h => ?_
  have e : ∀ x, (List.replicate n ([] : List UInt8)).getD x [] = [] := fun x => by
    simp only [List.getD_eq_getElem?_getD, List.getElem?_replicate]; split <;> rfl
  unfold lexB
  rw [e, e]
  simp [h, Sc.less_irrefl]
theorem on_stuck {n : Nat} {m : List Bool} {out : List Nat} (hm : m.length = n) (h : ∀ u, u < m.length → (m.getD u false = true ↔ u ∈ out)) : on m false = stuck n out := by
  unfold on stuck
  rw [hm]
  apply List.filter_congr
  intro u hu
  have := h u (by rw [hm]; simpa using hu)
  by_cases q : u ∈ out
  · rw [this.2 q]; simp [q]
  · have q2 : m.getD u false = false := by
      cases q3 : m.getD u false with
      | false => rfl
      | true => exact absurd (this.1 q3) q
    rw [q2]; simp [q]
theorem onTo_all (m : List Bool) (so : Bool) : onTo m so m.length = on m so := rfl

section
variable {D : Nat → Prop} {v nv : Value} {w : World} {S : List (List UInt8)}
set_option maxHeartbeats 4000000 in
theorem RStuck_any {N : List (List Nat)} (hv : Nd encN D w v N) (hR : Right N) (hn : N.length ≤ 1000000) :
    Calls Try.prog 17 #[v] w fun e w' => ∃ r out, e = .returned r ∧ Done N (List.range N.length) out ∧ w'.ownsRow w.heap.size 3 1 r (stuck N.length out).length (nums (stuck N.length out)) ∧ Below w.heap.size w w' := by
  have hlen := fun W => hv.len (P := Try.prog) 23 3 26 Try.underlying23 W
  obtain ⟨V, hmk, hs, hb⟩ := make_strs N.length (by omega) w
  have LA := hid (rlay_any (.slice (some ⟨w.heap.size, 0, none⟩) N.length N.length) v N (List.replicate N.length []) (List.range N.length) V hs (hv.later hb) hR (by simp) (byname_plain _) hn)
  have HB := hid hb
  clear hv hR hs hb
  go_enter Try.func17, Try.ntmps17
  go_wp2_with fail
  refine LA.out.mono ?_
  rintro e w1 ⟨ov, mv, out, m, rfl, dn, _, hom, hml, hmm, b1⟩
  have DN := hid dn
  have HE := hid (on_stuck hml hmm)
  have RM := hid (Row.ofOwns hom (by omega))
  have B1 := hid (bt HB.out b1)
  have hlm := fun W => own_len (P := Try.prog) (enc := Value.bool) hom 46 3 Try.underlying46 W
  clear dn hom hmm b1 LA HB hmk
  go_wp2_with fail
  go_loopg [5, 6] m.length (fun kx s5 s6 X => ∃ i : Nat, s6 = .int .i64 i ∧ i ≤ m.length ∧ m.length - i ≤ kx ∧ Hid (Below w1.heap.size w1 X) ∧ Hid (X.ownsRow w1.heap.size 3 1 s5 (onTo m false i).length (nums (onTo m false i))))
  case atStart => exact ⟨0, rfl, Nat.zero_le _, by omega, hid (b0 w1), hid ⟨rfl, .inl ⟨rfl, rfl⟩⟩⟩
  case round =>
    rename World => X
    obtain ⟨i, rfl, hi, hg, BX1, I⟩ := hrel
    by_cases hil : i < m.length
    · obtain ⟨b2, o2, hix2, hc2⟩ := row_at (P := Try.prog) (enc := Value.bool) (RM.out.later (fun b o hb => BX1.out.cell (p := ⟨b, o, none⟩) hb)) i hil 46 4 Try.underlying46 Try.sizeOf4
      have hst := onTo_succ m false i
      have hmi : m.getD i false = m[i] := by simp [hil]
      rw [hmi] at hst
      generalize m[i] = y at *
      cases y with
      | false =>
        rw [if_pos rfl] at hst
        have HST := hid hst
        obtain ⟨Y, hY⟩ : ∃ Y, X.alloc (.cells #[.int .i64 (i : Int)] 3) = Y := ⟨_, rfl⟩
        have BY : Below X.heap.size X Y := hY ▸ ba (b0 X) _
        have PY : Y.heap[X.heap.size]? = some (.cells #[.int .i64 (i : Int)] 3) := hY ▸ heap_alloc_new X _
        have HOY := hid (owns_later I.out BY)
        have HBY1 := hid (bt BX1.out BY)
        have HPY := hid PY
        have HL := hid (show (onTo m false i).length ≤ 1000000000 from Nat.le_trans (onTo_le m false i) (by omega))
        clear hst BY PY hmi
        go_wp2_with (at_builtin; refine append_step HOY.out HL.out HBY1.out.size HPY.out 26 Try.underlying26 rfl _ _ rfl rfl rfl ?_)
        intro v' w2 ho2 hg2 hb2
        have HO2 := hid (show w2.ownsRow w1.heap.size 3 1 v' (onTo m false i ++ [i]).length (nums (onTo m false i ++ [i])) from by simpa using ho2)
        have HB2 := hid (HBY1.out.grown hg2 HBY1.out.size (fun k hk => (World.ownsRow.lt HOY.out k hk).1))
        clear ho2 hg2 hb2
        go_wp2_with fail
        go_roundg (m.length - (i + 1))
        case measure => omega
        case rel => exact ⟨i + 1, by go_num, by omega, Nat.le_refl _, HB2, by rw [HST.out]; exact HO2⟩
      | true =>
        rw [if_neg (by decide)] at hst
        have HST := hid hst
        clear hst hmi
        go_wp2
        go_roundg (m.length - (i + 1))
        case measure => omega
        case rel => exact ⟨i + 1, by go_num, by omega, Nat.le_refl _, BX1, by rw [HST.out]; exact I⟩
    · obtain rfl : i = m.length := by omega
      have HF := hid (owns_base (C := w.heap.size) (by have h := I.out; rw [onTo_all, HE.out] at h; exact h : X.ownsRow w1.heap.size 3 1 _ (stuck N.length out).length (nums (stuck N.length out))) B1.out.size)
      have BX := hid (B1.out.trans (BX1.out.mono B1.out.size))
      go_wp2
      go_ret
      exact ⟨_, out, rfl, DN.out, HF.out, BX.out⟩
set_option maxHeartbeats 2000000 in
theorem RSort_len {M : List (List Int)} (hs : Strs w nv S) (hv : Nd encI D w v M) (hne : S.length ≠ M.length) :
    Calls Try.prog 12 #[nv, v] w fun e w' => e = .returned (.tuple #[.slice none 0 0, .int .i64 2]) ∧ w = w' := by
  have hlen := fun W => hv.len (P := Try.prog) 23 3 26 Try.underlying23 W
  have hlens := fun W => hs.len (P := Try.prog) 22 3 9 Try.underlying22 W
  have h1 : (S.length : Int) ≠ M.length := by omega
  clear hs hv
  go_enter Try.func12, Try.ntmps12
  go_wp2
  go_ret2
  exact ⟨rfl, rfl⟩
set_option maxHeartbeats 2000000 in
theorem RSort_bad {M : List (List Int)} (hs : Strs w nv S) (hv : Nd encI D w v M) (he : S.length = M.length) (hR : rightB M = false) :
    Calls Try.prog 12 #[nv, v] w fun e w' => e = .returned (.tuple #[.slice none 0 0, .int .i64 3]) ∧ w = w' := by
  have hlen := fun W => hv.len (P := Try.prog) 23 3 26 Try.underlying23 W
  have hlens := fun W => hs.len (P := Try.prog) 22 3 9 Try.underlying22 W
  rw [he] at hlens
  have AT := hid (Right_any v M w hv)
  rw [hR] at AT
  clear hs hv hR he
  go_enter Try.func12, Try.ntmps12
  go_wp2_with fail
  refine AT.out.mono ?_
  rintro e w1 ⟨rfl, rfl⟩
  go_wp2_with fail
  go_ret2
  exact ⟨rfl, rfl⟩
set_option maxHeartbeats 4000000 in
theorem RSort_ok {N : List (List Nat)} (hs : Strs w nv S) (hv : Nd encN D w v N) (he : S.length = N.length) (hR : Right N) (hn : N.length ≤ 1000000) {line : List Nat} (hb : ByName S line) :
    Calls Try.prog 12 #[nv, v] w fun e w' => ∃ out, Done N line out ∧ SortGot w.heap.size N.length out e w' ∧ Below w.heap.size w w' := by
  have hlen := fun W => hv.len (P := Try.prog) 23 3 26 Try.underlying23 W
  have hlens := fun W => hs.len (P := Try.prog) 22 3 9 Try.underlying22 W
  rw [he] at hlens
  have AT := hid (Right_any v (toI N) w (nd_int.2 hv))
  rw [(right_iff N).2 hR] at AT
  have LA := hid (rlay_any nv v N S line w hs hv hR he hb hn)
  have HL := hid (show Line N.length line by rw [← he]; exact hb.1)
  clear hs hv hR he hb
  go_enter Try.func12, Try.ntmps12
  go_wp2_with fail
  refine AT.out.mono ?_
  rintro e w1 ⟨rfl, rfl⟩
  go_wp2_with fail
  refine LA.out.mono ?_
  rintro e w3 ⟨ov, mv, out, m, rfl, dn, ho3, _, _, _, hb3⟩
  have hlen3 := fun W => own_len (P := Try.prog) ho3 26 3 Try.underlying26 W
  have hol : out.length ≤ N.length := dn.le HL.out
  have DN := hid dn
  have O3 := hid ho3
  have B3 := hid hb3
  clear dn ho3 hb3
  by_cases hq : out.length < N.length
  · go_wp2_with fail
    go_ret2
    exact ⟨out, DN.out, ⟨ov, O3.out, by rw [if_pos hq]; rfl⟩, B3.out⟩
  · go_wp2_with fail
    go_ret2
    exact ⟨out, DN.out, ⟨ov, O3.out, by rw [if_neg hq]; rfl⟩, B3.out⟩
end
/-- What is reached so far. -/
structure Rn (N : List (List Nat)) (a : Nat) (m : List Bool) : Prop where
  len : m.length = N.length
  fr : m.getD a false = true
  snd : ∀ t, m.getD t false = true → Rch N a t
theorem Rn.mark {N : List (List Nat)} {a t k : Nat} {m : List Bool} (h : Rn N a m) (ht : m.getD t false = true) (hk : k ∈ row N t) (hkn : k < N.length) : Rn N a (m.set k true) := by
  have hs := getD_set m (k := k) (by rw [h.len]; exact hkn)
  refine ⟨by rw [List.length_set]; exact h.len, by rw [hs]; split; rfl; exact h.fr, fun u hu => ?_⟩
  rw [hs] at hu
  by_cases e : u = k
  · subst e; exact (h.snd t ht).step hk
  · rw [if_neg e] at hu; exact h.snd u hu
/-- Nothing was new: all that those below i need is marked. -/
def Shut (N : List (List Nat)) (m : List Bool) (i : Nat) : Prop := ∀ u, u < i → m.getD u false = true → ∀ k ∈ row N u, m.getD k false = true
theorem Rn.done {N : List (List Nat)} {a : Nat} {m : List Bool} (h : Rn N a m) (hR : Right N) (ha : a < N.length) (hs : Shut N m N.length) : ∀ t, m.getD t false = true ↔ Rch N a t := fun t => ⟨h.snd t, fun hr => (hr.closed (S := fun t => t < N.length ∧ m.getD t false = true) ⟨ha, h.fr⟩ fun b hb c hc => ⟨(row_lt hR hc).1, hs b hb.1 hb.2 c hc⟩).2⟩
section
variable {D : Nat → Prop} {v : Value} {w : World}
set_option maxHeartbeats 8000000 in
theorem RReach_any {N : List (List Nat)} (a : Nat) (hv : Nd encN D w v N) (hR : Right N) (ha : a < N.length) (hn : N.length ≤ 1000000) :
    Calls Try.prog 18 #[v, .int .i64 a] w fun e w' => ∃ r m, e = .returned r ∧ m.length = N.length ∧ (∀ t, m.getD t false = true ↔ Rch N a t) ∧ w'.ownsRow w.heap.size 3 1 r (on m true).length (nums (on m true)) ∧ Below w.heap.size w w' := by
  have hlen := fun W => hv.len (P := Try.prog) 23 3 26 Try.underlying23 W
  obtain ⟨V, hmk, ho, hb, hsz⟩ := make_bools N.length (by omega) w.heap.size w (Nat.le_refl _)
  obtain ⟨mv, hmv⟩ : ∃ mv, Value.slice (some ⟨w.heap.size, 0, none⟩) N.length N.length = mv := ⟨_, rfl⟩
  rw [hmv] at hmk ho
  obtain ⟨b, hbb, hix, hc, hf, hBb, hlt, hset⟩ := own_at (P := Try.prog) (enc := Value.bool) ho a (by simpa using ha) 46 Try.underlying46 Try.sizeOf4
  have hs1 := hset true
  obtain ⟨V1, hV1⟩ : ∃ V1, V.setCell ⟨b, a, none⟩ (.bool true) = V1 := ⟨_, rfl⟩
  rw [hV1] at hs1
  have O1 := hid hs1
  have BB := hid (show Below w.heap.size w V1 from hV1 ▸ hb.setCell (p := ⟨b, a, none⟩) hBb _)
  have RS0 := Rs.start (N := N) ha
  have RS := hid (show Rn N a ((List.replicate N.length false).set a true) from ⟨RS0.len, RS0.fr, RS0.snd⟩)
  have hm0 : ((List.replicate N.length false).set a true).count false + 1 = N.length := by
    rw [count_set (by simpa using ha) (by simp [ha])]; simp
  have HV := hid hv
  have HR := hid hR
  clear ho hb hsz hmv hset hs1 hv hR hbb hBb hlt RS0
  go_enter Try.func18, Try.ntmps18
  go_wp2_with fail
  go_loopg [6] (N.length + 2) (fun gk s6 X => ∃ (m : List Bool) (mo : Bool), s6 = .bool mo ∧ m.count false + (if mo then 1 else 0) < gk ∧ Hid (Below w.heap.size w X) ∧ Hid (X.ownsRow w.heap.size 4 1 mv m.length (bools m)) ∧ Hid (Rn N a m) ∧ Hid (mo = false → Shut N m N.length))
  case atStart => exact ⟨_, true, rfl, by simp only [if_true]; omega, BB, O1, RS, hid (fun e => by cases e)⟩
  case round =>
    clear BB O1 RS hix hc hf hmk hV1 hm0
    rename World => X
    obtain ⟨m, mo, rfl, hgk, BX, OM, RX, CX⟩ := hrel
    cases mo with
    | true =>
      simp only [if_true] at hgk
      go_wp2_with fail
      go_loopg [6, 7] N.length (fun kx s6 s7 Z => ∃ (i : Nat) (m2 : List Bool) (mo : Bool), s6 = .bool mo ∧ s7 = .int .i64 i ∧ i ≤ N.length ∧ N.length - i ≤ kx ∧ m2.count false + (if mo then 1 else 0) ≤ m.count false ∧ Hid (Below w.heap.size w Z) ∧ Hid (Z.ownsRow w.heap.size 4 1 mv m2.length (bools m2)) ∧ Hid (Rn N a m2) ∧ Hid (mo = false → Shut N m2 i))
      case atStart => exact ⟨0, m, false, rfl, rfl, Nat.zero_le _, by omega, by simp, BX, OM, RX, hid (fun _ u hu => by omega)⟩
      case round =>
        clear BX OM RX CX
        rename World => Z
        obtain ⟨i, m2, mo, rfl, rfl, hi, hgi, hmm, BZ, OM, RZ, CZ⟩ := hrel
        by_cases hil : i < N.length
        · obtain ⟨bx, ox, x, hixx, hcw, hxw⟩ := HV.out.at (P := Try.prog) i hil 23 26 Try.underlying23 Try.sizeOf26
          have hrow : N[i] = row N i := by simp [row, hil]
          rw [hrow] at hxw
          have HRL := hid (fun k (hk : k ∈ row N i) => (row_lt HR.out hk).1)
          have hlen3 := fun W => hxw.1.len (P := Try.prog) 26 3 3 Try.underlying26 W
          have HXW := hid hxw.1
          have HCW := hid hcw
          have hle3 := hxw.1.le
          obtain ⟨l, hl⟩ : ∃ l, row N i = l := ⟨_, rfl⟩
          rw [hl] at HXW hlen3 HRL hle3
          have HLL := hid hl
          clear hrow hxw hcw hl
          go_wp2_with fail
          go_loopg [6, 8] l.length (fun kx s6 s8 Q => ∃ (j : Nat) (m3 : List Bool) (mo : Bool), s6 = .bool mo ∧ s8 = .int .i64 j ∧ j ≤ l.length ∧ l.length - j ≤ kx ∧ m3.count false + (if mo then 1 else 0) ≤ m.count false ∧ Hid (Below w.heap.size w Q) ∧ Hid (Q.ownsRow w.heap.size 4 1 mv m3.length (bools m3)) ∧ Hid (Rn N a m3) ∧ Hid (mo = false → Shut N m3 i ∧ (m3.getD i false = true → ∀ k ∈ l.take j, m3.getD k false = true)))
          case atStart => exact ⟨0, m2, mo, rfl, rfl, Nat.zero_le _, by omega, hmm, BZ, OM, RZ, hid (fun e => ⟨CZ.out e, fun _ k hk => by simp at hk⟩)⟩
          case round =>
            clear BZ OM RZ CZ hmm
            rename World => Q
            obtain ⟨j, m3, mo, rfl, rfl, hj, hgj, hmm, BQ, OM, RQ, CQ⟩ := hrel
            have hcx := (BQ.out.cell (p := ⟨bx, ox, none⟩) (World.block_lt_of_cell? _ _ HCW.out)).trans HCW.out
            obtain ⟨mb, hmb, hixm, hcm, _, _, _, _⟩ := own_at (P := Try.prog) (enc := Value.bool) OM.out i (by rw [RQ.out.len]; exact hil) 46 Try.underlying46 Try.sizeOf4
            have hgm : m3.getD i false = m3[i]'(by rw [RQ.out.len]; exact hil) := by simp [RQ.out.len, hil]
            rw [← hgm] at hcm
            clear hgm
            by_cases hjl : j < l.length
            · cases hq : m3.getD i false with
              | false =>
                rw [hq] at hcm
                have HC := hid (show mo = false → Shut N m3 (i + 1) from fun e u hu hmu k hk => by
                  by_cases e2 : u = i
                  · rw [e2, hq] at hmu; cases hmu
                  · exact (CQ.out e).1 u (by omega) hmu k hk)
                clear hq
                go_wp2_with fail
                go_roundg (N.length - (i + 1))
                case measure => omega
                case rel => exact ⟨i + 1, m3, mo, rfl, by go_num, by omega, Nat.le_refl _, hmm, BQ, OM, RQ, HC⟩
              | true =>
                rw [hq] at hcm
                obtain ⟨b2, o2, hix2, hc2⟩ := row_at (P := Try.prog) (HXW.out.below BQ.out (Nat.le_refl _)) j hjl 26 3 Try.underlying26 Try.sizeOf3
                simp only [encN] at hc2
                have hkm : l[j] ∈ l := List.getElem_mem hjl
                have hkn := HRL.out _ hkm
                have HTK := hid (show ∀ k, k ∈ l.take (j + 1) ↔ k ∈ l.take j ∨ k = l[j] from fun k => by rw [List.take_succ_eq_append_getElem hjl, List.mem_append, List.mem_singleton])
                have HKM := hid hkm
                generalize l[j] = k at *
                obtain ⟨mb2, hmb2, hixm2, hcm2, hfm2, hBm2, _, hsetm⟩ := own_at (P := Try.prog) (enc := Value.bool) OM.out k (by rw [RQ.out.len]; exact hkn) 46 Try.underlying46 Try.sizeOf4
                have hgm2 : m3.getD k false = m3[k]'(by rw [RQ.out.len]; exact hkn) := by simp [RQ.out.len, hkn]
                rw [← hgm2] at hcm2
                cases hq2 : m3.getD k false with
                | true =>
                  rw [hq2] at hcm2
                  have HD := hid (show mo = false → Shut N m3 i ∧ (m3.getD i false = true → ∀ c ∈ l.take (j + 1), m3.getD c false = true) from fun e => ⟨(CQ.out e).1, fun hi2 c hc => by
                    rcases (HTK.out c).1 hc with q | q
                    · exact (CQ.out e).2 hi2 c q
                    · rw [q]; exact hq2⟩)
                  clear hq hq2 hgm2 hsetm hkm
                  go_wp2_with fail
                  go_roundg (l.length - (j + 1))
                  case measure => omega
                  case rel => exact ⟨j + 1, m3, mo, rfl, by go_num, by omega, Nat.le_refl _, hmm, BQ, OM, RQ, HD⟩
                | false =>
                  rw [hq2] at hcm2
                  have HRM := hid (RQ.out.mark hq (by rw [HLL.out]; exact HKM.out) hkn)
                  have hcs := count_set (by rw [RQ.out.len]; exact hkn) hq2
                  have O4 := hid (hsetm true)
                  have B4 := hid (BQ.out.setCell (p := ⟨mb2, k, none⟩) hBm2 (.bool true))
                  have hmm2 : (m3.set k true).count false + 1 ≤ m.count false := by split at hmm <;> omega
                  have HD := hid (show true = false → Shut N (m3.set k true) i ∧ ((m3.set k true).getD i false = true → ∀ c ∈ l.take (j + 1), (m3.set k true).getD c false = true) from fun e => by cases e)
                  clear hq hq2 hgm2 hsetm hkm hmm hcs
                  go_wp2_with fail
                  go_roundg (l.length - (j + 1))
                  case measure => omega
                  case rel => exact ⟨j + 1, m3.set k true, true, rfl, by go_num, by omega, Nat.le_refl _, by simpa using hmm2, B4, O4, HRM, HD⟩
            · obtain rfl : j = l.length := by omega
              have HC := hid (show mo = false → Shut N m3 (i + 1) from fun e u hu hmu k hk => by
                by_cases e2 : u = i
                · subst e2
                  refine (CQ.out e).2 hmu k ?_
                  rw [List.take_of_length_le (Nat.le_refl _), ← HLL.out]; exact hk
                · exact (CQ.out e).1 u (by omega) hmu k hk)
              go_wp2_with fail
              go_roundg (N.length - (i + 1))
              case measure => omega
              case rel => exact ⟨i + 1, m3, mo, rfl, by go_num, by omega, Nat.le_refl _, hmm, BQ, OM, RQ, HC⟩
        · obtain rfl : i = N.length := by omega
          go_wp2_with fail
          go_roundg (m.count false + 1)
          case measure => omega
          case rel => exact ⟨m2, mo, rfl, by omega, BZ, OM, RZ, CZ⟩
    | false =>
      have DN := hid (RX.out.done HR.out ha (CX.out (by first | rfl | trivial)))
      have hml : m.length ≤ 1000000 := by rw [RX.out.len]; exact hn
      have hlm := fun W => own_len (P := Try.prog) (enc := Value.bool) OM.out 46 3 Try.underlying46 W
      have RM := hid (Row.ofOwns OM.out (by omega))
      go_wp2_with fail
      go_loopg [9, 10] m.length (fun kx s9 s10 Z => ∃ i : Nat, s10 = .int .i64 i ∧ i ≤ m.length ∧ m.length - i ≤ kx ∧ Hid (Below X.heap.size X Z) ∧ Hid (Z.ownsRow X.heap.size 3 1 s9 (onTo m true i).length (nums (onTo m true i))))
      case atStart => exact ⟨0, rfl, Nat.zero_le _, by omega, hid (b0 X), hid ⟨rfl, .inl ⟨rfl, rfl⟩⟩⟩
      case round =>
        rename World => Z
        obtain ⟨i, rfl, hi, hg, BZ, I⟩ := hrel
        by_cases hil : i < m.length
        · obtain ⟨b2, o2, hix2, hc2⟩ := row_at (P := Try.prog) (enc := Value.bool) (RM.out.later (fun b o hb => BZ.out.cell (p := ⟨b, o, none⟩) hb)) i hil 46 4 Try.underlying46 Try.sizeOf4
          have hst := onTo_succ m true i
          have hmi : m.getD i false = m[i] := by simp [hil]
          rw [hmi] at hst
          generalize m[i] = y at *
          cases y with
          | true =>
            rw [if_pos rfl] at hst
            have HST := hid hst
            obtain ⟨Y, hY⟩ : ∃ Y, Z.alloc (.cells #[.int .i64 (i : Int)] 3) = Y := ⟨_, rfl⟩
            have BY : Below Z.heap.size Z Y := hY ▸ ba (b0 Z) _
            have PY : Y.heap[Z.heap.size]? = some (.cells #[.int .i64 (i : Int)] 3) := hY ▸ heap_alloc_new Z _
            have HOY := hid (owns_later I.out BY)
            have HBY := hid (bt BZ.out BY)
            have HPY := hid PY
            have HL := hid (show (onTo m true i).length ≤ 1000000000 from Nat.le_trans (onTo_le m true i) (by omega))
            clear hst BY PY hmi
            go_wp2_with (at_builtin; refine append_step HOY.out HL.out HBY.out.size HPY.out 26 Try.underlying26 rfl _ _ rfl rfl rfl ?_)
            intro v' w2 ho2 hg2 hb2
            have HO2 := hid (show w2.ownsRow X.heap.size 3 1 v' (onTo m true i ++ [i]).length (nums (onTo m true i ++ [i])) from by simpa using ho2)
            have HB2 := hid (HBY.out.grown hg2 HBY.out.size (fun k hk => (World.ownsRow.lt HOY.out k hk).1))
            clear ho2 hg2 hb2
            go_wp2_with fail
            go_roundg (m.length - (i + 1))
            case measure => omega
            case rel => exact ⟨i + 1, by go_num, by omega, Nat.le_refl _, HB2, by rw [HST.out]; exact HO2⟩
          | false =>
            rw [if_neg (by decide)] at hst
            have HST := hid hst
            clear hst hmi
            go_wp2
            go_roundg (m.length - (i + 1))
            case measure => omega
            case rel => exact ⟨i + 1, by go_num, by omega, Nat.le_refl _, BZ, by rw [HST.out]; exact I⟩
        · obtain rfl : i = m.length := by omega
          have HF := hid (owns_base (C := w.heap.size) (by have h := I.out; rw [onTo_all] at h; exact h : Z.ownsRow X.heap.size 3 1 _ (on m true).length (nums (on m true))) BX.out.size)
          have BX2 := hid (BX.out.trans (BZ.out.mono BX.out.size))
          go_wp2
          go_ret
          exact ⟨_, m, rfl, RX.out.len, DN.out, HF.out, BX2.out⟩
end
end Go.Proofs.Ytkpmkabddhpojaa.Or
