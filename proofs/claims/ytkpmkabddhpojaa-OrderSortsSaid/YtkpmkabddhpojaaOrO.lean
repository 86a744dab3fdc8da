/- Layer 14: contract of the document's lay. -/
import Derived.Test.YtkpmkabddhpojaaOrM
import Derived.Test.YtkpmkabddhpojaaNamesMath
set_option linter.unusedVariables false
set_option linter.unusedSimpArgs false
namespace Go.Proofs.Ytkpmkabddhpojaa.Or
open Go Go.Proofs.Ytkpmkabddhpojaa Go.RowKit Go.Op
set_option maxRecDepth 100000

/-- The best of those ahead of i that may be laid. -/
def Scan (N : List (List Nat)) (S : List (List UInt8)) (out : List Nat) (i : Nat) : Option Nat → Prop
  | none => ∀ j, j < i → fits N out j = false
  | some b => b < i ∧ fits N out b = true ∧ ∀ j, j < i → fits N out j = true → j = b ∨ lexB S b j = true
def bestV : Option Nat → Value
  | none => .int .i64 (-1)
  | some b => .int .i64 (b : Int)
section
variable {N : List (List Nat)} {S : List (List UInt8)} {out : List Nat} {i : Nat} {best : Option Nat}
theorem Scan.skip (h : Scan N S out i best) (hf : fits N out i = false) : Scan N S out (i + 1) best := by
  cases best with
  | none =>
    intro j hj
    by_cases e : j = i
    · rw [e]; exact hf
    · exact h j (by omega)
  | some b =>
    refine ⟨by have := h.1; omega, h.2.1, fun j hj hq => ?_⟩
    by_cases e : j = i
    · rw [e, hf] at hq; cases hq
    · exact h.2.2 j (by omega) hq
theorem Scan.first (h : Scan N S out i none) (hf : fits N out i = true) : Scan N S out (i + 1) (some i) := by
  refine ⟨by omega, hf, fun j hj hq => ?_⟩
  by_cases e : j = i
  · exact .inl e
  · rw [h j (by omega)] at hq; cases hq
theorem lex_later {b i : Nat} (hb : b < i) : lexB S i b = bytesLess (S.getD i []) (S.getD b []) := by
  unfold lexB
  have : decide (i < b) = false := by simp; omega
  rw [this]; simp
theorem Scan.less {b : Nat} (h : Scan N S out i (some b)) (hf : fits N out i = true) (hl : bytesLess (S.getD i []) (S.getD b []) = true) : Scan N S out (i + 1) (some i) := by
  have hib : lexB S i b = true := by rw [lex_later h.1]; exact hl
  refine ⟨by omega, hf, fun j hj hq => ?_⟩
  by_cases e : j = i
  · exact .inl e
  · rcases h.2.2 j (by omega) hq with q | q
    · rw [q]; exact .inr hib
    · exact .inr (lex_trans hib q)
theorem Scan.more {b : Nat} (h : Scan N S out i (some b)) (hl : bytesLess (S.getD i []) (S.getD b []) = false) : Scan N S out (i + 1) (some b) := by
  have hib : lexB S i b = false := by rw [lex_later h.1]; exact hl
  refine ⟨by have := h.1; omega, h.2.1, fun j hj hq => ?_⟩
  by_cases e : j = i
  · rw [e]
    rcases lex_total (S := S) (show b ≠ i by have := h.1; omega) with q | q
    · exact .inr q
    · rw [q] at hib; cases hib
  · exact h.2.2 j (by omega) hq
/-- The best of all is the first in line that may be laid. -/
theorem Scan.pick {line : List Nat} (hb : ByName S line) (hS : S.length = N.length) (h : Scan N S out N.length best) : pick N line out = best := by
  cases best with
  | none =>
    rw [pick_none]
    exact fun t ht => h t (by have := hb.1.lt t ht; omega)
  | some b =>
    have hbl : b ∈ line := hb.1.all b (by have := h.1; omega)
    obtain ⟨p, r, e⟩ := List.append_of_mem hbl
    unfold Or.pick
    rw [List.find?_eq_some_iff_append]
    refine ⟨h.2.1, p, r, e, fun x hx => ?_⟩
    cases hq : fits N out x with
    | false => rfl
    | true =>
      have hpw := hb.2
      rw [e, List.pairwise_append] at hpw
      have h1 := hpw.2.2 x hx b (by simp)
      have hxn : x < N.length := by rw [← hS]; exact hb.1.lt x (by rw [e]; exact List.mem_append_left _ hx)
      rcases h.2.2 x hxn hq with q | q
      · rw [q, lex_irrefl] at h1; cases h1
      · rw [lex_asymm h1] at q; cases q
end
theorem marked_fits {N : List (List Nat)} {out : List Nat} {m : List Bool} (hR : Right N) (hl : m.length = N.length) (hm : ∀ u, u < m.length → (m.getD u false = true ↔ u ∈ out)) {i : Nat} (hi : i < N.length) : (!(m.getD i false) && marked m (row N i)) = fits N out i := by
  unfold fits marked
  have e1 : m.getD i false = out.contains i := by
    cases q : m.getD i false with
    | true => exact (List.contains_iff_mem.2 ((hm i (by omega)).1 q)).symm
    | false =>
      cases q2 : out.contains i with
      | false => rfl
      | true => rw [(hm i (by omega)).2 (List.contains_iff_mem.1 q2)] at q; cases q
  rw [e1]
  congr 1
  have : ∀ l : List Nat, (∀ k ∈ l, k < N.length) → (l.all fun k => m.getD k false) = l.all fun k => out.contains k := by
    intro l
    induction l with
    | nil => intro _; rfl
    | cons k l ih =>
      intro hk
      rw [List.all_cons, List.all_cons, ih fun c hc => hk c (List.mem_cons_of_mem _ hc)]
      congr 1
      have hkn := hk k (by simp)
      cases q : m.getD k false with
      | true => exact (List.contains_iff_mem.2 ((hm k (by omega)).1 q)).symm
      | false =>
        cases q2 : out.contains k with
        | false => rfl
        | true => rw [(hm k (by omega)).2 (List.contains_iff_mem.1 q2)] at q; cases q
  exact this _ fun k hk => (row_lt hR hk).1

set_option maxHeartbeats 16000000 in
theorem rlay_any {D : Nat → Prop} (nv v : Value) (N : List (List Nat)) (S : List (List UInt8)) (line : List Nat) (w : World) (hs : Strs w nv S) (hv : Nd encN D w v N) (hR : Right N) (hS : S.length = N.length) (hb : ByName S line) (hn : N.length ≤ 1000000) :
    Calls Try.prog 22 #[nv, v] w fun e w' => ∃ r mv out m, e = .returned (.tuple #[r, mv]) ∧ Done N line out ∧ w'.ownsRow w.heap.size 3 1 r out.length (nums out) ∧ w'.ownsRow w.heap.size 4 1 mv m.length (bools m) ∧ m.length = N.length ∧ (∀ u, u < m.length → (m.getD u false = true ↔ u ∈ out)) ∧ Below w.heap.size w w' := by
  have mixed : Try.prog.follows Departure.mixedOrders = true := by kernel_rfl
  have hlen := fun W => hv.len (P := Try.prog) 23 3 26 Try.underlying23 W
  obtain ⟨V, hmk, ho, hbl, hsz⟩ := make_bools N.length (by omega) w.heap.size w (Nat.le_refl _)
  obtain ⟨mv, hmv⟩ : ∃ mv, Value.slice (some ⟨w.heap.size, 0, none⟩) N.length N.length = mv := ⟨_, rfl⟩
  rw [hmv] at hmk ho
  have O1 := hid ho
  have BB := hid hbl
  have HS := hid hs
  have HV := hid hv
  have HR := hid hR
  have HB := hid hb
  have HSL := hid hS
  clear ho hbl hsz hmv hs hv hR hb hS
  go_enter Try.func22, Try.ntmps22
  go_wp2_with fail
  go_loopg [7] (N.length + 1) (fun gk s7 X => ∃ (m : List Bool) (out : List Nat), out.length ≤ N.length ∧ N.length - out.length < gk ∧ Hid (Below w.heap.size w X) ∧ Hid (X.ownsRow w.heap.size 4 1 mv m.length (bools m)) ∧ Hid (X.ownsRow w.heap.size 3 1 s7 out.length (nums out)) ∧ Hid (m.length = N.length ∧ ∀ u, u < m.length → (m.getD u false = true ↔ u ∈ out)) ∧ Hid (Gr N line out))
  case atStart => exact ⟨_, [], by simp, by simp, BB, O1, hid ⟨rfl, .inl ⟨rfl, rfl⟩⟩, hid ⟨by simp, fun u hu => by simp at hu ⊢; simp [hu]⟩, hid .nil⟩
  case round =>
    clear O1 BB hmk
    rename World => X
    obtain ⟨m, out, hol, hgk, BX, OM, OS, MX, GX⟩ := hrel
    go_wp2_with fail
    go_loopg [8, 9] N.length (fun kx s8 s9 Z => ∃ (i : Nat) (best : Option Nat), s8 = bestV best ∧ s9 = .int .i64 i ∧ i ≤ N.length ∧ N.length - i ≤ kx ∧ Hid (Below X.heap.size X Z) ∧ Hid (Scan N S out i best))
    case atStart => exact ⟨0, none, rfl, rfl, Nat.zero_le _, by omega, hid (b0 X), hid (fun j hj => by omega)⟩
    case round =>
      rename World => Z
      obtain ⟨i, best, rfl, rfl, hi, hgi, BZ, SC⟩ := hrel
      by_cases hil : i < N.length
      · have bwZ := BX.out.trans (BZ.out.mono BX.out.size)
        have omZ := owns_later OM.out BZ.out
        obtain ⟨mb, _, hixm, hcm, _, _, _, _⟩ := own_at (P := Try.prog) (enc := Value.bool) omZ i (by rw [MX.out.1]; exact hil) 46 Try.underlying46 Try.sizeOf4
        have hgm : m.getD i false = m[i]'(by rw [MX.out.1]; exact hil) := by simp [MX.out.1, hil]
        rw [← hgm] at hcm
        obtain ⟨bx, ox, x, hixx, hcw, hxw⟩ := HV.out.at (P := Try.prog) i hil 23 26 Try.underlying23 Try.sizeOf26
        have hcx := (bwZ.cell (p := ⟨bx, ox, none⟩) (World.block_lt_of_cell? _ _ hcw)).trans hcw
        have hrow : N[i] = row N i := by simp [row, hil]
        rw [hrow] at hxw
        have hMF := marked_fits HR.out MX.out.1 MX.out.2 hil
        have RD := hid (fun q => ready_any x mv (row N i) m (Z.drewN q) (Row.later (hxw.1.below bwZ (Nat.le_refl _)) fun _ _ _ => rfl) (Row.later (Row.ofOwns omZ (by rw [MX.out.1]; omega)) fun _ _ _ => rfl) (fun k hk => by rw [MX.out.1]; exact (row_lt HR.out hk).1))
        have hSl : i < S.length := by rw [HSL.out]; exact hil
        obtain ⟨b1, o1, hi1, hc1⟩ := row_at (P := Try.prog) (enc := fun s => Value.string (text s)) (HS.out.below bwZ (Nat.le_refl _)) i hSl 22 9 Try.underlying22 Try.sizeOf9
        have hg1 : S.getD i [] = S[i] := by simp [hSl]
        have HBZ := hid bwZ
        clear omZ hrow hxw hcw hgm
        cases hq : m.getD i false with
        | true =>
          rw [hq] at hcm hMF
          have HSC := hid (SC.out.skip (by rw [← hMF]; rfl))
          clear hMF hq hg1
          go_wp2_with fail
          go_quiet (fail)
          go_wp2_with fail
          go_roundg (N.length - (i + 1))
          case measure => omega
          case rel => exact ⟨i + 1, best, rfl, by go_num, by omega, Nat.le_refl _, hid (BZ.out.trans ⟨rfl, rfl, rfl, Nat.le_refl _, fun _ _ => rfl⟩), HSC⟩
        | false =>
          rw [hq] at hcm hMF
          cases hmk : marked m (row N i) with
          | false =>
            rw [hmk] at hMF RD
            have HSC := hid (SC.out.skip (by rw [← hMF]; rfl))
            clear hMF hq hg1 hmk
            go_wp2_with fail
            go_quiet (first | (go_at_call 37; exact Calls.quiet_of_same ((RD.out _).mono fun e w' h => ⟨h.1, h.2.symm⟩)))
            go_wp2_with fail
            go_roundg (N.length - (i + 1))
            case measure => omega
            case rel => exact ⟨i + 1, best, rfl, by go_num, by omega, Nat.le_refl _, hid (BZ.out.trans ⟨rfl, rfl, rfl, Nat.le_refl _, fun _ _ => rfl⟩), HSC⟩
          | true =>
            rw [hmk] at hMF RD
            cases best with
            | none =>
              have hbv : bestV none = .int .i64 (-1) := rfl
              have HSC := hid (SC.out.first (by rw [← hMF]; rfl))
              rw [hbv]
              clear hMF hq hg1 hmk hbv
              go_wp2_with fail
              go_quiet (first | (go_at_call 37; exact Calls.quiet_of_same ((RD.out _).mono fun e w' h => ⟨h.1, h.2.symm⟩)))
              go_wp2_with fail
              go_roundg (N.length - (i + 1))
              case measure => omega
              case rel => exact ⟨i + 1, some i, rfl, by go_num, by omega, Nat.le_refl _, hid (BZ.out.trans ⟨rfl, rfl, rfl, Nat.le_refl _, fun _ _ => rfl⟩), HSC⟩
            | some b =>
              have hbv : bestV (some b) = .int .i64 (b : Int) := rfl
              have hbi : b < i := SC.out.1
              have hSb : b < S.length := by omega
              obtain ⟨b2, o2, hi2, hc2⟩ := row_at (P := Try.prog) (enc := fun s => Value.string (text s)) (HS.out.below HBZ.out (Nat.le_refl _)) b hSb 22 9 Try.underlying22 Try.sizeOf9
              have hg2 : S.getD b [] = S[b] := by simp [hSb]
              have hls : bytesLess (text S[i]).toList (text S[b]).toList = bytesLess (S.getD i []) (S.getD b []) := by rw [hg1, hg2, Lib.toList_data, Lib.toList_data, text_data, text_data]
              rw [hbv]
              cases hbl : bytesLess (S.getD i []) (S.getD b []) with
              | true =>
                rw [hbl] at hls
                have HSC := hid (SC.out.less (by rw [← hMF]; rfl) hbl)
                generalize text S[i] = t1 at *
                generalize text S[b] = t2 at *
                clear hMF hq hg1 hmk hbv hg2 hbl
                go_wp2_with fail
                go_quiet (first | (go_at_call 37; exact Calls.quiet_of_same ((RD.out _).mono fun e w' h => ⟨h.1, h.2.symm⟩)))
                go_wp2_with fail
                go_roundg (N.length - (i + 1))
                case measure => omega
                case rel => exact ⟨i + 1, some i, rfl, by go_num, by omega, Nat.le_refl _, hid (BZ.out.trans ⟨rfl, rfl, rfl, Nat.le_refl _, fun _ _ => rfl⟩), HSC⟩
              | false =>
                rw [hbl] at hls
                have HSC := hid (SC.out.more hbl)
                generalize text S[i] = t1 at *
                generalize text S[b] = t2 at *
                clear hMF hq hg1 hmk hbv hg2 hbl
                go_wp2_with fail
                go_quiet (first | (go_at_call 37; exact Calls.quiet_of_same ((RD.out _).mono fun e w' h => ⟨h.1, h.2.symm⟩)))
                go_wp2_with fail
                go_roundg (N.length - (i + 1))
                case measure => omega
                case rel => exact ⟨i + 1, some b, rfl, by go_num, by omega, Nat.le_refl _, hid (BZ.out.trans ⟨rfl, rfl, rfl, Nat.le_refl _, fun _ _ => rfl⟩), HSC⟩
      · obtain rfl : i = N.length := by omega
        have PK := hid (SC.out.pick HB.out HSL.out)
        cases best with
        | none =>
          have hbv : bestV none = .int .i64 (-1) := rfl
          have OM2 := hid (owns_later OM.out BZ.out)
          have OS2 := hid (owns_later OS.out BZ.out)
          have BZ2 := hid (BX.out.trans (BZ.out.mono BX.out.size))
          rw [hbv]
          go_wp2_with fail
          go_ret2
          exact ⟨_, _, out, m, rfl, ⟨GX.out, PK.out⟩, OS2.out, OM2.out, MX.out.1, MX.out.2, BZ2.out⟩
        | some t =>
          have hbv : bestV (some t) = .int .i64 (t : Int) := rfl
          have htn : t < N.length := SC.out.1
          have GS := hid (GX.out.step PK.out)
          have HO2 := hid (nodup_le N.length (out ++ [t]) GS.out.nodup (fun y hy => by rw [← HSL.out]; exact HB.out.1.lt y (GS.out.mem y hy)))
          have omZ := owns_later OM.out BZ.out
          have osZ := owns_later OS.out BZ.out
          obtain ⟨mb, hmb, hixm, hcm, hfm, hBm, _, hset⟩ := own_at (P := Try.prog) (enc := Value.bool) omZ t (by rw [MX.out.1]; exact htn) 46 Try.underlying46 Try.sizeOf4
          have hap := apart_bi omZ osZ mb hmb
          have o3 := hset true
          obtain ⟨W1, hW1⟩ : ∃ W1, Z.setCell ⟨mb, t, none⟩ (.bool true) = W1 := ⟨_, rfl⟩
          rw [hW1] at o3
          have b3 : Below w.heap.size w W1 := hW1 ▸ (BX.out.trans (BZ.out.mono BX.out.size)).setCell (p := ⟨mb, t, none⟩) hBm _
          have k3 : Kx (fun c => c = mb) Z W1 := hW1 ▸ Kx.set Z mb t _ rfl
          have os3 := owns_kx osZ k3 (fun c hc q => hap (by rw [hc, q]))
          obtain ⟨Y, hY⟩ : ∃ Y, W1.alloc (.cells #[.int .i64 (t : Int)] 3) = Y := ⟨_, rfl⟩
          have BY : Below W1.heap.size W1 Y := hY ▸ ba (b0 W1) _
          have PY : Y.heap[W1.heap.size]? = some (.cells #[.int .i64 (t : Int)] 3) := hY ▸ heap_alloc_new W1 _
          have OMY := hid (owns_later o3 BY)
          have OSY := hid (owns_later os3 BY)
          have BBY := hid (bt b3 BY)
          have HPY := hid PY
          have M2 := hid (show (m.set t true).length = N.length ∧ ∀ u, u < (m.set t true).length → ((m.set t true).getD u false = true ↔ u ∈ out ++ [t]) from ⟨by rw [List.length_set]; exact MX.out.1, set_true m out t MX.out.2 (by rw [MX.out.1]; exact htn)⟩)
          have HLL := hid (show out.length ≤ 1000000000 by omega)
          clear omZ osZ hap o3 b3 k3 os3 BY PY hset
          rw [hbv]
          go_wp2_with (at_builtin; refine append_step OSY.out HLL.out BBY.out.size HPY.out 26 Try.underlying26 rfl _ _ rfl rfl rfl ?_)
          intro v' w4 ho4 hg4 hb4
          have HO4 := hid (show w4.ownsRow w.heap.size 3 1 v' (out ++ [t]).length (nums (out ++ [t])) from by simpa using ho4)
          have HB4 := hid (BBY.out.grown hg4 BBY.out.size (fun c hc => (World.ownsRow.lt OSY.out c hc).1))
          have HM4 := hid (own_apart_grown OMY.out OSY.out hg4)
          have hoL := HO2.out
          rw [List.length_append, List.length_singleton] at hoL
          clear ho4 hg4 hb4
          go_wp2_with fail
          go_roundg (N.length - out.length)
          case measure => omega
          case rel => exact ⟨m.set t true, out ++ [t], HO2.out, by rw [List.length_append, List.length_singleton]; omega, HB4, HM4, HO4, M2, GS⟩
end Go.Proofs.Ytkpmkabddhpojaa.Or
