/- Layer 14: contract of reached. -/
import Derived.Test.YtkpmkabddhpojaaOrE
set_option linter.unusedVariables false
set_option linter.unusedSimpArgs false
namespace Go.Proofs.Ytkpmkabddhpojaa.Or
open Go Go.Proofs.Ytkpmkabddhpojaa Go.RowKit
set_option maxRecDepth 100000

/-- What is reached is being marked; what is still to be gone on from stands in st, but for E. -/
structure Rs (N : List (List Nat)) (a : Nat) (m : List Bool) (st : List Nat) (E : Nat → Prop) : Prop where
  len : m.length = N.length
  fr : m.getD a false = true
  snd : ∀ t, m.getD t false = true → Rch N a t
  stk : ∀ t ∈ st, t < N.length ∧ m.getD t false = true
  cl : ∀ u, m.getD u false = true → u ∈ st ∨ E u ∨ ∀ k ∈ row N u, m.getD k false = true
theorem getD_set (m : List Bool) {k : Nat} (hk : k < m.length) (u : Nat) : (m.set k true).getD u false = if u = k then true else m.getD u false := by
  simp only [List.getD_eq_getElem?_getD, List.getElem?_set]
  by_cases e : u = k
  · subst e; simp [hk]
  · rw [if_neg (fun e' => e e'.symm), if_neg e]
theorem count_set {m : List Bool} : ∀ {k : Nat}, k < m.length → m.getD k false = false → (m.set k true).count false + 1 = m.count false := by
  induction m with
  | nil => intro k hk; simp at hk
  | cons b m ih =>
    intro k hk h
    cases k with
    | zero =>
      have : b = false := by simpa using h
      subst this; simp
    | succ k =>
      have := ih (k := k) (by simpa using hk) (by simpa using h)
      rw [List.set_cons_succ, List.count_cons, List.count_cons]; omega
section
variable {N : List (List Nat)} {a : Nat} {m : List Bool} {st : List Nat} {E : Nat → Prop}
theorem Rs.start (ha : a < N.length) : Rs N a ((List.replicate N.length false).set a true) [a] (fun _ => False) := by
  have hs := getD_set (List.replicate N.length false) (k := a) (by simpa using ha)
  have h0 : ∀ u, (List.replicate N.length false).getD u false = false := fun u => by simp [List.getD_eq_getElem?_getD, List.getElem?_replicate]; split <;> rfl
  refine ⟨by simp, by rw [hs, if_pos rfl], fun t ht => ?_, fun t ht => ?_, fun u hu => ?_⟩
  · rw [hs] at ht
    by_cases e : t = a
    · subst e; exact .self
    · rw [if_neg e, h0] at ht; cases ht
  · rw [List.mem_singleton] at ht; subst ht; exact ⟨ha, by rw [hs, if_pos rfl]⟩
  · rw [hs] at hu
    by_cases e : u = a
    · subst e; exact .inl (by simp)
    · rw [if_neg e, h0] at hu; cases hu
theorem Rs.pop {t : Nat} (h : Rs N a m (st ++ [t]) (fun _ => False)) : Rs N a m st (fun u => u = t) :=
  ⟨h.len, h.fr, h.snd, fun u hu => h.stk u (List.mem_append_left _ hu), fun u hu => by
    rcases h.cl u hu with q | q | q
    · rw [List.mem_append, List.mem_singleton] at q
      rcases q with q | q
      · exact .inl q
      · exact .inr (.inl q)
    · exact q.elim
    · exact .inr (.inr q)⟩
theorem Rs.mark {t k : Nat} (h : Rs N a m st (fun u => u = t)) (ht : Rch N a t) (hk : k ∈ row N t) (hkn : k < N.length) : Rs N a (m.set k true) (st ++ [k]) (fun u => u = t) := by
  have hs := getD_set m (k := k) (by rw [h.len]; exact hkn)
  have mono : ∀ u, m.getD u false = true → (m.set k true).getD u false = true := fun u hu => by rw [hs]; split <;> simp_all
  refine ⟨by rw [List.length_set]; exact h.len, mono _ h.fr, fun u hu => ?_, fun u hu => ?_, fun u hu => ?_⟩
  · rw [hs] at hu
    by_cases e : u = k
    · subst e; exact ht.step hk
    · rw [if_neg e] at hu; exact h.snd u hu
  · rw [List.mem_append, List.mem_singleton] at hu
    rcases hu with q | q
    · exact ⟨(h.stk u q).1, mono u (h.stk u q).2⟩
    · subst q; exact ⟨hkn, by rw [hs, if_pos rfl]⟩
  · rw [hs] at hu
    by_cases e : u = k
    · subst e; exact .inl (by simp)
    · rw [if_neg e] at hu
      rcases h.cl u hu with q | q | q
      · exact .inl (List.mem_append_left _ q)
      · exact .inr (.inl q)
      · exact .inr (.inr fun c hc => mono c (q c hc))
theorem Rs.close {t : Nat} (h : Rs N a m st (fun u => u = t)) (hc : ∀ k ∈ row N t, m.getD k false = true) : Rs N a m st (fun _ => False) :=
  ⟨h.len, h.fr, h.snd, h.stk, fun u hu => by
    rcases h.cl u hu with q | q | q
    · exact .inl q
    · rw [q]; exact .inr (.inr hc)
    · exact .inr (.inr q)⟩
theorem Rs.done (h : Rs N a m [] (fun _ => False)) : ∀ t, m.getD t false = true ↔ Rch N a t := fun t => ⟨h.snd t, fun hr => hr.closed (S := fun t => m.getD t false = true) h.fr fun b hb c hc => by
  rcases h.cl b hb with q | q | q
  · cases q
  · exact q.elim
  · exact q c hc⟩
end

theorem own_box {w : World} {B g : Nat} {k : Nat} (hB : B ≤ g) (hg : w.heap[g]? = some (.cells #[encN k] 3)) : w.ownsRow B 3 1 (.slice (some ⟨g, 0, none⟩) 1 1) [k].length (nums [k]) :=
  ⟨rfl, .inr ⟨g, 1, _, rfl, hB, hg, Nat.le_refl _, by unfold maxLen; omega, rfl, rfl⟩⟩
theorem apart_bi {X : World} {B B' : Nat} {v v' : Value} {n n' : Nat} {xs xs' : List Value} (h : X.ownsRow B 4 1 v n xs) (h' : X.ownsRow B' 3 1 v' n' xs') : (∀ b, v.ownBlock = some b → v'.ownBlock ≠ some b) := by
  intro b hb
  rcases owns_apart (by decide) h h' with e | e
  · rw [e] at hb; cases hb
  · intro e2; exact e (hb.trans e2.symm)
theorem own_apart_grown {X X' : World} {B B' : Nat} {v v' : Value} {n n' : Nat} {xs xs' : List Value} (h : X.ownsRow B 4 1 v n xs) (h' : X.ownsRow B' 3 1 v' n' xs') (hg : X.grownBy X' v'.ownBlock) : X'.ownsRow B 4 1 v n xs :=
  owns_kx h (Kx.grown (S := fun c => v'.ownBlock = some c) hg fun c e => e) (fun c hc q => apart_bi h h' c hc q)
set_option maxHeartbeats 8000000 in
theorem reached_any {D : Nat → Prop} (v : Value) (N : List (List Nat)) (a : Nat) (w : World) (hv : Nd encN D w v N) (hR : Right N) (ha : a < N.length) (hn : N.length ≤ 1000000) :
    Calls Try.prog 26 #[v, .int .i64 a] w fun e w' => ∃ r m, e = .returned r ∧ m.length = N.length ∧ (∀ t, m.getD t false = true ↔ Rch N a t) ∧ w'.ownsRow w.heap.size 4 1 r m.length (bools m) ∧ Below w.heap.size w w' := by
  have hlen := fun W => hv.len (P := Try.prog) 23 3 26 Try.underlying23 W
  obtain ⟨V, hmk, ho, hb, hsz⟩ := make_bools N.length (by omega) w.heap.size w (Nat.le_refl _)
  obtain ⟨mv, hmv⟩ : ∃ mv, Value.slice (some ⟨w.heap.size, 0, none⟩) N.length N.length = mv := ⟨_, rfl⟩
  rw [hmv] at hmk ho
  obtain ⟨b, hbb, hix, hc, hf, hBb, hlt, hset⟩ := own_at (P := Try.prog) (enc := Value.bool) ho a (by simpa using ha) 46 Try.underlying46 Try.sizeOf4
  have hs1 := hset true
  obtain ⟨V1, hV1⟩ : ∃ V1, V.setCell ⟨b, a, none⟩ (.bool true) = V1 := ⟨_, rfl⟩
  rw [hV1] at hs1
  have b1 : Below w.heap.size w V1 := hV1 ▸ hb.setCell (p := ⟨b, a, none⟩) hBb _
  obtain ⟨Y, hY⟩ : ∃ Y, V1.alloc (.cells #[.int .i64 (a : Int)] 3) = Y := ⟨_, rfl⟩
  have BY : Below V1.heap.size V1 Y := hY ▸ ba (b0 V1) _
  have PY : Y.heap[V1.heap.size]? = some (.cells #[encN a] 3) := hY ▸ heap_alloc_new V1 _
  have O1 := hid (owns_later hs1 BY)
  have O2 := hid (own_box (B := w.heap.size) (g := V1.heap.size) b1.size PY)
  have BB := hid (bt b1 BY)
  have RS := hid (Rs.start (N := N) ha)
  have hm0 : ((List.replicate N.length false).set a true).count false + 1 = N.length := by
    rw [count_set (by simpa using ha) (by simp [ha])]; simp
  have HV := hid hv
  have HR := hid hR
  clear ho hb hsz hmv hset hs1 b1 BY PY hv hR hbb hBb hlt
  go_enter Try.func26, Try.ntmps26
  go_wp2_with fail
  go_loopg [6] (N.length + 1) (fun gk s6 X => ∃ (m : List Bool) (st : List Nat), m.count false + st.length < gk ∧ Hid (m.count false + st.length ≤ N.length) ∧ Hid (Below w.heap.size w X) ∧ Hid (X.ownsRow w.heap.size 4 1 mv m.length (bools m)) ∧ Hid (X.ownsRow w.heap.size 3 1 s6 st.length (nums st)) ∧ Hid (Rs N a m st (fun _ => False)))
  case atStart => exact ⟨_, [a], by rw [List.length_singleton]; omega, hid (by rw [List.length_singleton]; omega), BB, O1, O2, RS⟩
  case round =>
    clear BB O1 O2 RS hix hc hf hmk hV1 hY hm0
    rename World => X
    obtain ⟨m, st, hgk, HM, BX, OM, OS, RX⟩ := hrel
    have hlen2 := fun W => own_len (P := Try.prog) OS.out 26 3 Try.underlying26 W
    rcases List.eq_nil_or_concat st with rfl | ⟨st, t, rfl⟩
    · have DN := hid RX.out.done
      rw [List.length_nil] at hlen2
      go_wp2_with fail
      go_ret
      exact ⟨_, m, rfl, RX.out.len, DN.out, OM.out, BX.out⟩
    · rw [List.concat_eq_append] at hgk HM OS RX hlen2
      obtain ⟨g, cap, hvv, hc1, hc2, ho2, hct⟩ := own_form OS.out
      rw [hvv] at hlen2
      have hsl : ∀ kh W, (Instr.slice 26 (.slice (some ⟨g, 0, none⟩) (st.length + 1) cap) none (some (.int kh (st.length : Int))) none).run Try.prog W = .ok (.slice (some ⟨g, 0, none⟩) st.length cap) W := by
        intro kh W
        have h1 : (st.length : Int) ≤ (cap : Int) := by omega
        have h2 : cap ≠ 0 := by omega
        simp [Instr.slice, run_underlying Try.underlying26, Instr.sliceBounds, run_sliceBound, sliced, Try.sizeOf3, h1, h2, Addr.add_lit]
      have hixt : ∀ kk W, (Instr.indexAt 26 (.slice (some ⟨g, 0, none⟩) (st.length + 1) cap) (.int kk (st.length : Int))).run Try.prog W = .ok (.pointer (some ⟨g, st.length, none⟩)) W := by
        intro kk W
        simp [Instr.indexAt, asIntOf, run_underlying Try.underlying26, Try.sizeOf3, Addr.add_lit]
        try omega
      simp only [encN] at hct
      rw [List.length_append, List.length_singleton] at hlen2 hgk
      have hstl : st.length ≤ 1000000 := by have := HM.out; rw [List.length_append, List.length_singleton] at this; omega
      have htn := (RX.out.stk t (by simp)).1
      have htr := RX.out.snd t (RX.out.stk t (by simp)).2
      obtain ⟨bx, ox, x, hixx, hcw, hxw⟩ := HV.out.at (P := Try.prog) t htn 23 26 Try.underlying23 Try.sizeOf26
      have hcx := (BX.out.cell (p := ⟨bx, ox, none⟩) (World.block_lt_of_cell? _ _ hcw)).trans hcw
      have hrow : N[t] = row N t := by simp [row, htn]
      rw [hrow] at hxw
      have HRL := hid (fun k (hk : k ∈ row N t) => (row_lt HR.out hk).1)
      have hlen3 := fun W => hxw.1.len (P := Try.prog) 26 3 3 Try.underlying26 W
      have HXW := hid hxw.1
      have HRP := hid RX.out.pop
      have HTR := hid htr
      have OS2 := hid ho2
      have HLE := hid (show m.count false + st.length + 1 ≤ N.length by have := HM.out; rw [List.length_append, List.length_singleton] at this; omega)
      have hle3 := hxw.1.le
      rw [hvv]
      obtain ⟨l, hl⟩ : ∃ l, row N t = l := ⟨_, rfl⟩
      rw [hl] at HXW hlen3 HRL hle3
      have HLL := hid hl
      clear hrow hxw hcw ho2 OS RX htr htn hl
      go_wp2_with fail
      go_loopg [6, 37] l.length (fun kx s6 s37 Z => ∃ (j : Nat) (m2 : List Bool) (st2 : List Nat), s37 = .int .i64 j ∧ j ≤ l.length ∧ l.length - j ≤ kx ∧ m2.count false + st2.length = m.count false + st.length ∧ Hid (Below w.heap.size w Z) ∧ Hid (Z.ownsRow w.heap.size 4 1 mv m2.length (bools m2)) ∧ Hid (Z.ownsRow w.heap.size 3 1 s6 st2.length (nums st2)) ∧ Hid (Rs N a m2 st2 (fun u => u = t)) ∧ Hid (∀ k ∈ l.take j, m2.getD k false = true))
      case atStart => exact ⟨0, m, st, rfl, Nat.zero_le _, by omega, rfl, BX, OM, OS2, HRP, hid (fun k hk => by simp at hk)⟩
      case round =>
        clear OS2 HRP OM BX hct hcx
        rename World => Z
        obtain ⟨j, m2, st2, rfl, hj, hgj, hmm, BZ, OM, OS, RX, DX⟩ := hrel
        by_cases hjl : j < l.length
        · obtain ⟨b2, o2, hix2, hc2⟩ := row_at (P := Try.prog) (HXW.out.below BZ.out (Nat.le_refl _)) j hjl 26 3 Try.underlying26 Try.sizeOf3
          simp only [encN] at hc2
          have hkm : l[j] ∈ l := List.getElem_mem hjl
          have hkn := HRL.out _ hkm
          have HTK := hid (show ∀ k, k ∈ l.take (j + 1) ↔ k ∈ l.take j ∨ k = l[j] from fun k => by rw [List.take_succ_eq_append_getElem hjl, List.mem_append, List.mem_singleton])
          have HKM := hid hkm
          generalize l[j] = k at *
          obtain ⟨mb, hmb, hixm, hcm, hfm, hBm, _, hsetm⟩ := own_at (P := Try.prog) (enc := Value.bool) OM.out k (by rw [RX.out.len]; exact hkn) 46 Try.underlying46 Try.sizeOf4
          have hgm : m2.getD k false = m2[k]'(by rw [RX.out.len]; exact hkn) := by simp [RX.out.len, hkn]
          rw [← hgm] at hcm
          cases hq : m2.getD k false with
          | true =>
            rw [hq] at hcm
            have HD2 := hid (show ∀ c ∈ l.take (j + 1), m2.getD c false = true from fun c hc => by
              rcases (HTK.out c).1 hc with q | q
              · exact DX.out c q
              · rw [q]; exact hq)
            clear hq hgm hsetm hkm
            go_wp2_with fail
            go_roundg (l.length - (j + 1))
            case measure => omega
            case rel => exact ⟨j + 1, m2, st2, by go_num, by omega, Nat.le_refl _, hmm, BZ, OM, OS, RX, HD2⟩
          | false =>
            rw [hq] at hcm
            have hml : k < m2.length := by rw [RX.out.len]; exact hkn
            have hgs := getD_set m2 hml
            have HD2 := hid (show ∀ c ∈ l.take (j + 1), (m2.set k true).getD c false = true from fun c hc => by
              rw [hgs]
              rcases (HTK.out c).1 hc with q | q
              · split
                · rfl
                · exact DX.out c q
              · rw [if_pos q])
            have HCS := hid (count_set hml hq)
            have HRM := hid (RX.out.mark (k := k) HTR.out (by rw [HLL.out]; exact HKM.out) hkn)
            have o3 := hsetm true
            obtain ⟨W1, hW1⟩ : ∃ W1, Z.setCell ⟨mb, k, none⟩ (.bool true) = W1 := ⟨_, rfl⟩
            rw [hW1] at o3
            have b3 : Below w.heap.size w W1 := hW1 ▸ BZ.out.setCell (p := ⟨mb, k, none⟩) hBm _
            have k3 : Kx (fun c => c = mb) Z W1 := hW1 ▸ Kx.set Z mb k _ rfl
            have hap := apart_bi OM.out OS.out mb hmb
            have os3 := owns_kx OS.out k3 (fun c hc q => hap (by rw [hc, q]))
            obtain ⟨Y, hY⟩ : ∃ Y, W1.alloc (.cells #[.int .i64 (k : Int)] 3) = Y := ⟨_, rfl⟩
            have BY : Below W1.heap.size W1 Y := hY ▸ ba (b0 W1) _
            have PY : Y.heap[W1.heap.size]? = some (.cells #[encN k] 3) := hY ▸ heap_alloc_new W1 _
            have OMY := hid (owns_later o3 BY)
            have OSY := hid (owns_later os3 BY)
            have BBY := hid (bt b3 BY)
            have HPY := hid PY
            have hs2 : st2.length ≤ 1000000000 := by have := HLE.out; omega
            have HS2 := hid hs2
            clear hq hgm hsetm hkm hgs o3 b3 k3 hap os3 BY PY hs2
            go_wp2_with (at_builtin; refine append_step OSY.out HS2.out BBY.out.size HPY.out 26 Try.underlying26 rfl _ _ rfl rfl rfl ?_)
            intro v' w4 ho4 hg4 hb4
            have HO4 := hid (show w4.ownsRow w.heap.size 3 1 v' (st2 ++ [k]).length (nums (st2 ++ [k])) from by simpa using ho4)
            have HB4 := hid (BBY.out.grown hg4 BBY.out.size (fun c hc => (World.ownsRow.lt OSY.out c hc).1))
            have HM4 := hid (own_apart_grown OMY.out OSY.out hg4)
            clear ho4 hg4 hb4
            go_wp2_with fail
            go_roundg (l.length - (j + 1))
            case measure => omega
            case rel => exact ⟨j + 1, m2.set k true, st2 ++ [k], by go_num, by omega, Nat.le_refl _, by rw [List.length_append, List.length_singleton]; have := HCS.out; omega, HB4, HM4, HO4, HRM, HD2⟩
        · obtain rfl : j = l.length := by omega
          have HC := hid (RX.out.close (fun k hk => DX.out k (by rw [List.take_of_length_le (Nat.le_refl _), ← HLL.out]; exact hk)))
          go_wp2_with fail
          go_roundg (m2.count false + st2.length + 1)
          case measure => omega
          case rel => exact ⟨m2, st2, by omega, hid (by have := HLE.out; omega), BZ, OM, OS, HC⟩
end Go.Proofs.Ytkpmkabddhpojaa.Or
