/- Layer 14: the walk of lay. -/
import Derived.Test.YtkpmkabddhpojaaOrH
set_option linter.unusedVariables false
set_option linter.unusedSimpArgs false
namespace Go.Proofs.Ytkpmkabddhpojaa.Or
open Go Go.Proofs.Ytkpmkabddhpojaa Go.RowKit
set_option maxRecDepth 100000

theorem row_mass : ∀ {N : List (List Nat)} (t : Nat), (row N t).length ≤ mass N
  | [], t => by simp [row]
  | r :: N, 0 => by simp [row, mass]
  | r :: N, t + 1 => by
    have := row_mass (N := N) t
    have e : row (r :: N) (t + 1) = row N t := by simp [row]
    rw [e]; unfold mass at *; simp; omega
theorem cnt_le (N : List (List Nat)) (out : List Nat) (t : Nat) : cnt N out t ≤ mass N := Nat.le_trans (List.countP_le_length) (row_mass t)
theorem line_place {n : Nat} {line : List Nat} (h : Line n line) {u : Nat} (hu : u < n) : ∃ b, b < n ∧ line.getD b 0 = u ∧ (placed n line n).getD u 0 = b := by
  obtain ⟨b, hb, e⟩ := List.getElem_of_mem (h.all u hu)
  have hbn : b < n := by rw [← h.len]; exact hb
  have e1 : line.getD b 0 = u := by simp [hb, e]
  refine ⟨b, hbn, e1, ?_⟩
  have := placed_at (n := n) h.nd h.lt n (by rw [h.len]; exact Nat.le_refl _) b hbn
  rwa [e1] at this
theorem rdy_len {n : Nat} {H : List Nat} (h : H.Nodup) (hl : ∀ b ∈ H, b < n) : H.length ≤ n := nodup_le n H h hl

set_option maxHeartbeats 16000000 in
theorem lay_any {D : Nat → Prop} (v x : Value) (N : List (List Nat)) (line : List Nat) (w : World) (hv : Nd encN D w v N) (hR : Right N) (hx : Row 1 w x line.length (nums line)) (hL : Line N.length line) (hn : N.length + mass N ≤ 900000) :
    Calls Try.prog 20 #[v, x] w fun e w' => ∃ r out, e = .returned r ∧ Done N line out ∧ w'.ownsRow w.heap.size 3 1 r out.length (nums out) ∧ Below w.heap.size w w' := by
  have hll := hL.len
  have PL := hid (places_any x line w hx (by omega) (fun k hk => by rw [hll]; exact hL.lt k hk))
  rw [hll] at PL
  have hlen := fun W => hx.len (P := Try.prog) 26 3 3 Try.underlying26 W
  rw [hll] at hlen
  have HV := hid hv
  have HX := hid hx
  have HR := hid hR
  have HL := hid hL
  clear hv hx hR hL hll
  go_enter Try.func20, Try.ntmps20
  go_wp2_with fail
  refine PL.out.mono ?_
  rintro e w1 ⟨pv, rfl, hp1, b1, hpb⟩
  have TA := hid (tally_any v N w1 (HV.out.later b1) HR.out (by omega))
  have HP1 := hid hp1
  have B1 := hid b1
  have HPB := hid hpb
  clear hp1 b1 hpb
  go_wp2_with fail
  refine TA.out.mono ?_
  rintro e w2 ⟨mv, uv, vs, rfl, ty2, b2⟩
  obtain ⟨Y, hY⟩ : ∃ Y, w2.alloc (.cells #[] 3) = Y := ⟨_, rfl⟩
  have BY : Below w2.heap.size w2 Y := hY ▸ ba (b0 w2) _
  have PY : Y.heap[w2.heap.size]? = some (.cells #[] 3) := hY ▸ heap_alloc_new w2 _
  have SY : Y.heap.size = w2.heap.size + 1 := hY ▸ World.size_alloc w2 _
  obtain ⟨Z, hZ⟩ : ∃ Z, Y.alloc (.cells #[.slice (some ⟨w2.heap.size, 0, none⟩) 0 0] 56) = Z := ⟨_, rfl⟩
  have BZ : Below Y.heap.size Y Z := hZ ▸ ba (b0 Y) _
  have PZ : Z.heap[Y.heap.size]? = some (.cells #[.slice (some ⟨w2.heap.size, 0, none⟩) 0 0] 56) := hZ ▸ heap_alloc_new Y _
  have bWZ : Below w2.heap.size w2 Z := bt BY BZ
  have hs1 := B1.out.size
  have hs2 := b2.size
  have ho0 : Z.ownsRow w.heap.size 3 1 (.slice (some ⟨w2.heap.size, 0, none⟩) 0 0) ([] : List Nat).length (nums []) := ⟨rfl, .inr ⟨w2.heap.size, 0, #[], rfl, by omega, (BZ.block _ (by omega)).trans PY, Nat.le_refl _, by unfold maxLen; omega, rfl, rfl⟩⟩
  have hmv := fun b q => World.ownsRow.lt ty2.m b q
  have hel := fun k hk b q => World.ownsRow.lt (ty2.el k hk) b q
  have LS := hid (show Ls w.heap.size N line Z pv mv uv Y.heap.size (.slice (some ⟨w2.heap.size, 0, none⟩) 0 0) (.slice none 0 0) (N.map List.length) [] [] vs from
    { pl := owns_later (owns_later HP1.out b2) bWZ
      ty := (ty2.base hs1).kx (S := fun _ => False) (Kx.of_below bWZ) (fun _ _ q => q) (fun _ _ q => q) (fun _ _ _ _ q => q)
      hp := ⟨PZ, ho0⟩
      heap := fun c _ hc => by simp at hc
      lo := ⟨rfl, .inl ⟨rfl, rfl⟩⟩
      rb := by omega
      pd := fun b hb => by
        rw [HPB.out] at hb
        obtain rfl : w.heap.size = b := by injection hb
        have hlt := (World.ownsRow.lt HP1.out _ HPB.out).2
        exact ⟨fun q => by have := (hmv _ q).1; omega, fun k hk q => by have := (hel k hk _ q).1; omega⟩
      hd := fun b hb => by
        obtain rfl : w2.heap.size = b := by injection hb
        exact ⟨fun q => by have := (World.ownsRow.lt HP1.out _ q).2; omega, fun q => by have := (hmv _ q).2; omega, fun k hk q => by have := (hel k hk _ q).2; omega⟩
      ld := fun b hb => by cases hb })
  have BB := hid (show Below w.heap.size w Z from bt B1.out (bt b2 bWZ))
  clear ty2 b2 BY PY SY BZ PZ bWZ hs1 hs2 ho0 hmv hel
  go_wp2_with fail
  generalize hRR : Y.heap.size = R at *
  go_loopg [26] N.length (fun kx s26 X => ∃ (i : Nat) (hv : Value) (H : List Nat), s26 = .int .i64 i ∧ i ≤ N.length ∧ N.length - i ≤ kx ∧ Hid (Below w.heap.size w X) ∧ Hid (Ls w.heap.size N line X pv mv uv R hv (.slice none 0 0) (N.map List.length) H [] vs) ∧ Hid (H.Nodup ∧ ∀ b, b ∈ H ↔ b < i ∧ fits N [] (line.getD b 0) = true))
  case atStart => exact ⟨0, _, [], rfl, Nat.zero_le _, by omega, BB, LS, hid ⟨List.nodup_nil, fun b => by simp⟩⟩
  case round =>
    clear LS BB hY hZ hRR
    rename World => X
    obtain ⟨i, hv, H, rfl, hi, hg, BX, LX, RX⟩ := hrel
    by_cases hil : i < N.length
    · have hill : i < line.length := by rw [HL.out.len]; exact hil
      obtain ⟨b2, o2, hix2, hc2⟩ := row_at (P := Try.prog) (HX.out.below BX.out (Nat.le_refl _)) i hill 26 3 Try.underlying26 Try.sizeOf3
      simp only [encN] at hc2
      have hgt : line.getD i 0 = line[i] := by simp [hill]
      have htl : line[i] < N.length := HL.out.lt _ (List.getElem_mem hill)
      generalize line[i] = t at *
      obtain ⟨mb, _, hixm, hcm, _, _, _, _⟩ := own_at (P := Try.prog) LX.out.ty.m t (by rw [LX.out.ty.ml]; exact htl) 26 Try.underlying26 Try.sizeOf3
      simp only [encN] at hcm
      have hz : (N.map List.length)[t]'(by rw [LX.out.ty.ml]; exact htl) = cnt N [] t := by rw [cnt_nil]; simp [row, htl]
      rw [hz] at hcm
      have HF := hid (show fits N [] (line.getD i 0) = true ↔ cnt N [] t = 0 by rw [hgt, fits_cnt]; simp)
      have HLN := hid (rdy_len RX.out.1 (fun b hb => ((RX.out.2 b).1 hb).1))
      clear hgt hz
      generalize cnt N [] t = z at *
      by_cases hz0 : z = 0
      · subst hz0
        have PU := hid (HPush_any LX.out.hp LX.out.heap BX.out.size i (by have := HLN.out; omega))
        simp only [Int.natCast_zero, Int.ofNat_zero] at hcm
        go_wp2_with fail
        refine PU.out.mono ?_
        rintro e w3 ⟨rfl, hv3, H3, hp3, q3, hh3, pu3⟩
        obtain ⟨l3, k3⟩ := LX.out.heaped pu3.kx pu3.new hp3 hh3
        have L3 := hid l3
        have B3 := hid (k3.below BX.out fun b q => q)
        have Q3 := hid (show H3.Nodup ∧ ∀ b, b ∈ H3 ↔ b < i + 1 ∧ fits N [] (line.getD b 0) = true from by
          refine ⟨q3.nodup_iff.2 (List.nodup_cons.2 ⟨fun q => by have := ((RX.out.2 i).1 q).1; omega, RX.out.1⟩), fun b => ?_⟩
          rw [q3.mem_iff, List.mem_cons, RX.out.2]
          constructor
          · rintro (rfl | ⟨h1, h2⟩)
            · exact ⟨by omega, HF.out.2 (by first | rfl | trivial)⟩
            · exact ⟨by omega, h2⟩
          · rintro ⟨h1, h2⟩
            rcases Nat.lt_or_ge b i with h3 | h3
            · exact .inr ⟨h3, h2⟩
            · exact .inl (by omega))
        clear hp3 q3 hh3 pu3 l3 k3
        go_wp2_with fail
        go_roundg (N.length - (i + 1))
        case measure => omega
        case rel => exact ⟨i + 1, hv3, H3, by go_num, by omega, Nat.le_refl _, B3, L3, Q3⟩
      · have Q3 := hid (show H.Nodup ∧ ∀ b, b ∈ H ↔ b < i + 1 ∧ fits N [] (line.getD b 0) = true from by
          refine ⟨RX.out.1, fun b => ?_⟩
          rw [RX.out.2]
          constructor
          · rintro ⟨h1, h2⟩; exact ⟨by omega, h2⟩
          · rintro ⟨h1, h2⟩
            rcases Nat.lt_or_ge b i with h3 | h3
            · exact ⟨h3, h2⟩
            · obtain rfl : b = i := by omega
              exact absurd (HF.out.1 h2) hz0)
        go_wp2
        go_roundg (N.length - (i + 1))
        case measure => omega
        case rel => exact ⟨i + 1, hv, H, by go_num, by omega, Nat.le_refl _, BX, LX, Q3⟩
    · obtain rfl : i = N.length := by omega
      have RD := hid (show Rdy N line [] H from ⟨RX.out.1, fun b => by rw [RX.out.2, HL.out.len]⟩)
      have HC0 := hid (show ∀ t, t < N.length → (N.map List.length).getD t 0 = cnt N [] t from fun t ht => by rw [cnt_nil]; simp [row, ht])
      go_wp2_with fail
      go_loopg [11] (N.length + 1) (fun kx s11 X => ∃ (hv : Value) (ms H out : List Nat), out.length ≤ N.length ∧ N.length - out.length < kx ∧ Hid (Below w.heap.size w X) ∧ Hid (Ls w.heap.size N line X pv mv uv R hv s11 ms H out vs) ∧ Hid (Rdy N line out H) ∧ Hid (Gr N line out) ∧ Hid (∀ t, t < N.length → ms.getD t 0 = cnt N out t))
      case atStart => exact ⟨hv, _, H, [], by simp, by simp, BX, LX, RD, hid .nil, HC0⟩
      case round =>
        clear RD HC0 LX BX RX hi hil hg
        rename World => X
        obtain ⟨hv, ms, H, out, hol, hgk, BX, LX, RX, GX, CX⟩ := hrel
        have hnd := RX.out.nd
        have HLN := hid (rdy_len (n := N.length) hnd (fun b hb => by have := ((RX.out.iff b).1 hb).1; rw [HL.out.len] at this; exact this))
        have LN := hid (Len_any LX.out.hp.own)
        have hcR := LX.out.hp.cell
        clear hnd
        rcases Nat.eq_zero_or_pos H.length with h0 | h0
        · obtain rfl : H = [] := List.eq_nil_of_length_eq_zero h0
          rw [List.length_nil] at LN
          have PN := hid RX.out.none
          go_wp2_with fail
          refine LN.out.mono ?_
          rintro e w4 ⟨rfl, rfl⟩
          go_wp2_with fail
          go_ret
          exact ⟨_, out, rfl, ⟨GX.out, PN.out⟩, LX.out.lo, BX.out⟩
        · have PO := hid (HPop_any LX.out.hp LX.out.heap (by have := HLN.out; omega) h0)
          go_wp2_with fail
          refine LN.out.mono ?_
          rintro e w4 ⟨rfl, rfl⟩
          go_wp2_with fail
          refine PO.out.mono ?_
          rintro e w5 ⟨k, hv5, H5, rfl, hp5, q5, hh5, hm5, k5, hn5⟩
          have ta : ∀ W, (Instr.typeAssert (.iface 3 (.int .i64 (k : Int))) 20 3 false).run Try.prog W = .ok (.int .i64 (k : Int)) W := fun _ => by kernel_rfl
          obtain ⟨l5, kk5⟩ := LX.out.heaped k5 (.inl hn5) hp5 hh5
          have hkH : k ∈ H := q5.mem_iff.2 (List.mem_cons_self ..)
          obtain ⟨hk1, hk2⟩ := (RX.out.iff k).1 hkH
          have hkN : k < N.length := by rw [HL.out.len] at hk1; exact hk1
          have hpk := RX.out.pick hkH (fun b hb => by
            rcases List.mem_cons.1 (q5.mem_iff.1 hb) with e | e
            · omega
            · exact hm5 b e)
          have MS := hid (fun us => Mid.start (us := us) RX.out q5 LX.out.ty.ml CX.out)
          have B5 := hid (kk5.below BX.out fun b q => q)
          have L5 := hid l5
          obtain ⟨bx, ox, hixx, hcx⟩ := row_at (P := Try.prog) (HX.out.below B5.out (Nat.le_refl _)) k hk1 26 3 Try.underlying26 Try.sizeOf3
          simp only [encN] at hcx
          have hgt : line.getD k 0 = line[k] := by simp [hk1]
          have htl : line[k] < N.length := HL.out.lt _ (List.getElem_mem hk1)
          have HKN := hid (And.intro hkN hk2)
          have HGT := hid hgt
          rw [hgt] at hpk
          generalize line[k] = t at *
          have GS := hid (GX.out.step hpk)
          have HO2 := hid (nodup_le N.length (out ++ [t]) GS.out.nodup (fun y hy => HL.out.lt y (GS.out.mem y hy)))
          have htout := (pick_some hpk).2.1
          have HTO := hid htout
          obtain ⟨Y, hY⟩ : ∃ Y, w5.alloc (.cells #[.int .i64 (t : Int)] 3) = Y := ⟨_, rfl⟩
          have BY : Below w5.heap.size w5 Y := hY ▸ ba (b0 w5) _
          have PY : Y.heap[w5.heap.size]? = some (.cells #[.int .i64 (t : Int)] 3) := hY ▸ heap_alloc_new w5 _
          have HOY := hid (owns_later L5.out.lo BY)
          have HBY := hid (B5.out.trans (BY.mono B5.out.size))
          have HYZ := hid BY
          have HPY := hid PY
          have HLL := hid (show out.length ≤ 1000000000 by omega)
          clear hp5 q5 hh5 hm5 k5 hn5 l5 kk5 hkH hk1 hk2 hpk htout BY PY hgt PO LN hcR h0 hkN
          go_wp2_with (at_builtin; refine append_step HOY.out HLL.out HBY.out.size HPY.out 26 Try.underlying26 rfl _ _ rfl rfl rfl ?_)
          intro lv6 w6 ho6 hg6 hb6
          obtain ⟨l6, k6⟩ := L5.out.snoc (L' := out ++ [t]) HYZ.out (by simpa using ho6) hg6 hb6
          have L6 := hid l6
          have B6 := hid (k6.below B5.out fun b q => q)
          clear ho6 hg6 hb6 l6 k6 hY
          obtain ⟨ub, _, hixu, hcu, _, _, _, _⟩ := own_at (P := Try.prog) (enc := id) L6.out.ty.u t (by rw [L6.out.ty.ul]; exact htl) 23 Try.underlying23 Try.sizeOf26
          have hge : vs.getD t .nilIface = vs[t]'(by rw [L6.out.ty.ul]; exact htl) := by simp [L6.out.ty.ul, htl]
          simp only [id] at hcu
          rw [← hge] at hcu
          have hul := usOf_le (prs N N.length) t
          have hpl := prs_le N N.length (Nat.le_refl _)
          have hull : (usOf (prs N N.length) t).length ≤ 900000 := by omega
          have hlen3 := fun W => own_len (P := Try.prog) (L6.out.ty.el t htl) 26 3 Try.underlying26 W
          have HUC := hid (fun y hy => users_count (N := N) y t hy)
          have HUL := hid (fun y (hy : y ∈ usOf (prs N N.length) t) => users_lt hy)
          have HEL := hid (fun (X : World) (hv lv : Value) (ms H L : List Nat) (h : Ls w.heap.size N line X pv mv uv R hv lv ms H L vs) => h.ty.el t htl)
          clear hge hul hpl
          generalize vs.getD t .nilIface = xe at *
          generalize usOf (prs N N.length) t = us at *
          go_wp2_with fail
          go_loopg [63] us.length (fun kx s63 X => ∃ (j : Nat) (hv : Value) (ms H : List Nat), s63 = .int .i64 j ∧ j ≤ us.length ∧ us.length - j ≤ kx ∧ Hid (Below w.heap.size w X) ∧ Hid (Ls w.heap.size N line X pv mv uv R hv lv6 ms H (out ++ [t]) vs) ∧ Hid (Mid N line out k us ms H j))
          case atStart => exact ⟨0, hv5, ms, H5, rfl, Nat.zero_le _, by omega, B6, L6, hid (MS.out us)⟩
          case round =>
            clear L6 B6 HBY HOY HYZ HPY HLL B5 L5 hcx hixx MS RX CX GX LX BX
            rename World => X
            obtain ⟨j, hv, ms, H, rfl, hj, hgj, BX, LX, MX⟩ := hrel
            by_cases hjl : j < us.length
            · obtain ⟨b2, o2, hix2, hc2⟩ := row_at (P := Try.prog) (Row.ofOwns (HEL.out _ _ _ _ _ _ LX.out) (by omega)) j hjl 26 3 Try.underlying26 Try.sizeOf3
              simp only [encN] at hc2
              have hul := HUL.out _ (List.getElem_mem hjl)
              have hle : us.count us[j] ≤ cnt N out us[j] := by
                rw [HUC.out _ hul]
                have := cnt_snoc HTO.out us[j] (N := N)
                omega
              have hpos := MX.out.pos hjl hul hle
              obtain ⟨bb, hbb, hbl, hpb⟩ := line_place HL.out hul
              obtain ⟨d1, d2⟩ := MX.out.down HL.out hjl hul hle hbb hbl
              have hcl := cnt_le N out us[j]
              have hcn := MX.out.cn _ hul
              have D1 := hid d1
              have D2 := hid d2
              clear d1 d2 hle hbl
              generalize us[j] = u at *
              obtain ⟨mb, hmb, hixm, hcm, hfm, _, _, _⟩ := own_at (P := Try.prog) LX.out.ty.m u (by rw [LX.out.ty.ml]; exact hul) 26 Try.underlying26 Try.sizeOf3
              have hmu : ms.getD u 0 = ms[u]'(by rw [LX.out.ty.ml]; exact hul) := by simp [LX.out.ty.ml, hul]
              rw [← hmu] at hcm
              obtain ⟨y, hy⟩ : ∃ y, ms.getD u 0 = y + 1 := ⟨ms.getD u 0 - 1, by omega⟩
              rw [hy] at D1 D2 hcm hcn
              rw [Nat.add_sub_cancel] at D1 D2
              obtain ⟨l7, k7⟩ := LX.out.down (i := u) (k := y) hul hmb
              have hyb : y ≤ 900000 := by omega
              simp only [encN] at hcm l7 k7
              have hcm' : X.cell? ⟨mb, u, none⟩ = some (.int .i64 ((y : Int) + 1)) := by rw [hcm]; simp
              have hcs : (X.setCell ⟨mb, u, none⟩ (.int .i64 (y : Int))).cell? ⟨mb, u, none⟩ = some (.int .i64 (y : Int)) := World.cell?_setCell_same _ _ _ hcm
              obtain ⟨W1, hW1⟩ : ∃ W1, X.setCell ⟨mb, u, none⟩ (.int .i64 (y : Int)) = W1 := ⟨_, rfl⟩
              rw [hW1] at l7 k7 hcs
              have L7 := hid l7
              have B7 := hid (k7.below BX.out fun b q => q)
              obtain ⟨pb, _, hixp, hcp, _, _, _, _⟩ := own_at (P := Try.prog) L7.out.pl u (by rw [placed_length]; exact hul) 26 Try.underlying26 Try.sizeOf3
              have hpu : (placed N.length line N.length).getD u 0 = (placed N.length line N.length)[u]'(by rw [placed_length]; exact hul) := by simp [placed_length, hul]
              rw [← hpu, hpb] at hcp
              simp only [encN] at hcp
              have HLN := hid (rdy_len (n := N.length) MX.out.nd (fun b hb => by have := ((MX.out.iff b).1 hb).1; rw [HL.out.len] at this; exact this))
              clear l7 k7 hcm hmu hpu hpos hcn hcl hmb hy hpb
              by_cases hy0 : y = 0
              · subst hy0
                have PU := hid (HPush_any L7.out.hp L7.out.heap B7.out.size bb (by have := HLN.out; omega))
                simp only [Int.natCast_zero, Int.ofNat_zero] at hcm' hcs hW1
                go_wp2_with fail
                refine PU.out.mono ?_
                rintro e w8 ⟨rfl, hv8, H8, hp8, q8, hh8, pu8⟩
                obtain ⟨l8, k8⟩ := L7.out.heaped pu8.kx pu8.new hp8 hh8
                have L8 := hid l8
                have B8 := hid (k8.below B7.out fun b q => q)
                have M8 := hid (D1.out (by first | rfl | trivial) H8 q8)
                clear hp8 q8 hh8 pu8 l8 k8
                go_wp2_with fail
                go_roundg (us.length - (j + 1))
                case measure => omega
                case rel => exact ⟨j + 1, hv8, _, H8, by go_num, by omega, Nat.le_refl _, B8, L8, M8⟩
              · have M8 := hid (D2.out hy0)
                go_wp2_with fail
                go_roundg (us.length - (j + 1))
                case measure => omega
                case rel => exact ⟨j + 1, hv, _, H, by go_num, by omega, Nat.le_refl _, B7, L7, M8⟩
            · obtain rfl : j = us.length := by omega
              obtain ⟨m1, m2⟩ := MX.out.stop HL.out (by
                have hg := GS.out
                exact (hg.take out t [] rfl).1) (.inr trivial) HKN.out.1 HKN.out.2 (fun y hy => by rw [HGT.out]; exact HUC.out y hy)
              rw [HGT.out] at m1 m2
              have M1 := hid m1
              have M2 := hid m2
              have hoL := HO2.out
              rw [List.length_append, List.length_singleton] at hoL
              clear m1 m2
              go_wp2_with fail
              go_roundg (N.length - out.length)
              case measure => omega
              case rel => exact ⟨hv, ms, H, out ++ [t], HO2.out, by rw [List.length_append, List.length_singleton]; omega, BX, LX, M2, GS, M1⟩
end Go.Proofs.Ytkpmkabddhpojaa.Or
