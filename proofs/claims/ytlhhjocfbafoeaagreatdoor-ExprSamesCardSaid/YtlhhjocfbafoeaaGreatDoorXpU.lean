/- Layer 10: contracts of slices.Equal, alike and Same. -/
import Derived.Test.YtlhhjocfbafoeaaGreatDoorXpS
import Derived.Test.YtlhhjocfbafoeaaGreatDoorXbS
import Derived.Deep.RegionHeld3
set_option linter.unusedVariables false
set_option linter.unusedSimpArgs false
namespace Go.Proofs.YtlhhjocfbafoeaaGreatDoor.Xp
open Go Go.Proofs.YtlhhjocfbafoeaaGreatDoor Go.RowKit
set_option maxRecDepth 100000
theorem tbq (a b : List UInt8) : ((text a).toList == (text b).toList) = decide (a = b) := by
  rw [Sc.tlist, Sc.tlist]
  by_cases h : a = b
  · subst h; simp
  · simp [h]
theorem bdrew (w : World) (q : Nat) : Below w.heap.size w (w.drewN q) := ⟨rfl, rfl, rfl, Nat.le_refl _, fun _ _ => rfl⟩
set_option maxHeartbeats 4000000 in
theorem EqStrs_any {w : World} {v u : Value} {a b : List (List UInt8)} (h : Strs w v a) (k : Strs w u b) :
    Calls Tryz.prog 65 #[v, u] w fun e w' => e = .returned (.bool (decide (a = b))) ∧ ∃ m, w' = w.drewN m := by
  have len1 := fun X => h.len (P := Tryz.prog) 22 3 9 undS X
  have len2 := fun X => k.len (P := Tryz.prog) 22 3 9 undS X
  have hb := h.le
  have H := hid h
  have K := hid k
  clear h k
  by_cases hn : a.length = b.length
  · rw [← hn] at len2
    have HN := hid hn
    clear hn
    go_enter Tryz.func65, Tryz.ntmps65
    go_wp2_with fail
    go_loopg [13, 5] a.length (fun gk iv jv X => ∃ n q : Nat, iv = .int .i64 n ∧ n + gk = a.length ∧ X = w.drewN q ∧ Hid (∀ j, j < n → a[j]? = b[j]?))
    case atStart => exact ⟨0, 0, rfl, by omega, rfl, hid (fun j hj => absurd hj (Nat.not_lt_zero _))⟩
    case round =>
      rename World => X
      obtain ⟨n, q, rfl, hng, rfl, HA⟩ := hrel
      by_cases hi : n < a.length
      · obtain ⟨b1, o1, i1, c0⟩ := H.out.at (P := Tryz.prog) n hi 22 9 undS sizS
        obtain ⟨b2, o2, i2, d0⟩ := K.out.at (P := Tryz.prog) n (by rw [← HN.out]; exact hi) 22 9 undS sizS
        have hq1 : a[n]? = some a[n] := List.getElem?_eq_getElem _
        have hq2 : b[n]? = some (b[n]'(by rw [← HN.out]; exact hi)) := List.getElem?_eq_getElem _
        generalize a[n] = x at *
        generalize b[n]'(by rw [← HN.out]; exact hi) = y at *
        have Q1 := hid hq1
        have Q2 := hid hq2
        clear hq1 hq2
        by_cases hx : x = y
        · subst hx
          go_wp2_with fail
          go_quiet (fail)
          go_wp2
          go_roundg (gk - 1)
          case measure => omega
          case rel =>
            refine ⟨n + 1, _, by go_num, by omega, rfl, hid fun j hj => ?_⟩
            rcases Nat.lt_or_ge j n with h | h
            · exact HA.out j h
            · obtain rfl : j = n := by omega
              rw [Q1.out, Q2.out]
        · have hxx : ((text x).toList == (text y).toList) = false := by rw [tbq]; simpa using hx
          have HX := hid hx
          clear hx
          go_wp2_with fail
          go_quiet (fail)
          go_wp2
          go_ret
          have hd : decide (a = b) = false := by
            rw [decide_eq_false_iff_not]
            intro e
            subst e
            exact HX.out (Option.some.inj (Q1.out.symm.trans Q2.out))
          exact ⟨by rw [hd]; rfl, _, World.drewN_drewN ..⟩
      · go_wp2
        go_ret
        have hd : decide (a = b) = true := by
          rw [decide_eq_true_eq]
          refine List.ext_getElem? fun j => ?_
          rcases Nat.lt_or_ge j n with h | h
          · exact HA.out j h
          · rw [List.getElem?_eq_none (by omega), List.getElem?_eq_none (by have := HN.out; omega)]
        exact ⟨by rw [hd]; rfl, _, rfl⟩
  · have hne : ((a.length : Int) == (b.length : Int)) = false := by rw [beq_eq_false_iff_ne]; omega
    have hne2 : ((a.length : Int) != (b.length : Int)) = true := by rw [bne_iff_ne]; omega
    have hd : decide (a = b) = false := by rw [decide_eq_false_iff_not]; intro e; exact hn (by rw [e])
    have HD := hid hd
    clear hn hd
    go_enter Tryz.func65, Tryz.ntmps65
    go_wp2
    go_ret
    exact ⟨by rw [HD.out]; rfl, 0, rfl⟩
set_option maxHeartbeats 8000000 in
theorem alike_any {w : World} {b1 o1 b2 o2 : Nat} {x y : Ex} {nv pv nv2 pv2 : Value} (h : ExAt w b1 o1 x nv pv) (k : ExAt w b2 o2 y nv2 pv2) :
    Calls Tryz.prog 42 #[.pointer (some ⟨b1, o1, none⟩), .pointer (some ⟨b2, o2, none⟩)] w fun e w' => e = .returned (.bool (decide (alikeP x y))) ∧ ∃ m, w' = w.drewN m := by
  obtain ⟨hn, hp⟩ := h.is.parts
  obtain ⟨kn, kp⟩ := k.is.parts
  have klen1 := fun X => hp.len 3 X
  have klen2 := fun X => kp.len 3 X
  have EQ := hid (fun (q : Nat) => EqStrs_any (w := w.drewN q) (hn.below (bdrew w q) (Nat.le_refl _)) (kn.below (bdrew w q) (Nat.le_refl _)))
  have c0 := h.c0
  have c1 := h.c1
  have c2 := h.c2
  have c3 := h.c3
  have d0 := k.c0
  have d1 := k.c1
  have d2 := k.c2
  have d3 := k.c3
  have hD : decide (alikeP x y) = (decide (x.kind = y.kind) && (decide (x.s = y.s) && (decide (x.nm = y.nm) && decide (x.l.length = y.l.length)))) := by
    by_cases e : alikeP x y
    · rw [decide_eq_true e]
      obtain ⟨e1, e2, e3, e4⟩ := e
      simp [e1, e2, e3, e4]
    · rw [decide_eq_false e]
      symm
      simp only [Bool.and_eq_false_iff, decide_eq_false_iff_not]
      by_cases e1 : x.kind = y.kind
      · by_cases e2 : x.s = y.s
        · by_cases e3 : x.nm = y.nm
          · exact .inr (.inr (.inr fun e4 => e ⟨e1, e2, e3, e4⟩))
          · exact .inr (.inr (.inl e3))
        · exact .inr (.inl e2)
      · exact .inl e1
  rw [hD]
  have hxx : ((text x.s).toList == (text y.s).toList) = decide (x.s = y.s) := by rw [tbq]
  clear h k hn hp kn kp hD
  generalize x.kind = k1 at *
  generalize y.kind = k2 at *
  generalize x.s = s1 at *
  generalize y.s = s2 at *
  generalize x.nm = n1 at *
  generalize y.nm = n2 at *
  generalize x.l.length = z1 at *
  generalize y.l.length = z2 at *
  by_cases hk : k1 = k2
  · subst hk
    by_cases hs : s1 = s2
    · subst hs
      clear hxx
      by_cases hm : n1 = n2
      · rw [decide_eq_true hm] at EQ ⊢
        clear hm
        by_cases hl : z1 = z2
        · subst hl
          go_enter Tryz.func42, Tryz.ntmps42
          go_wp2_with fail
          go_quiet ((go_at_call 65; exact Calls.quiet_of (EQ.out _)))
          go_wp2
          go_ret
          exact ⟨by simp, _, rfl⟩
        · have hne : ((z1 : Int) == (z2 : Int)) = false := by rw [beq_eq_false_iff_ne]; omega
          have HR := hid (show decide (z1 = z2) = false from decide_eq_false hl)
          clear hl
          go_enter Tryz.func42, Tryz.ntmps42
          go_wp2_with fail
          go_quiet ((go_at_call 65; exact Calls.quiet_of (EQ.out _)))
          go_wp2
          go_ret
          exact ⟨by rw [HR.out]; simp, _, rfl⟩
      · have HR := hid (decide_eq_false hm)
        rw [HR.out] at EQ ⊢
        clear hm
        go_enter Tryz.func42, Tryz.ntmps42
        go_wp2_with fail
        go_quiet ((go_at_call 65; exact Calls.quiet_of (EQ.out _)))
        go_wp2
        go_ret
        exact ⟨by simp, _, rfl⟩
    · have HR := hid (decide_eq_false hs)
      rw [HR.out] at hxx ⊢
      clear hs
      go_enter Tryz.func42, Tryz.ntmps42
      go_wp2_with fail
      go_quiet (fail)
      go_wp2
      go_ret
      exact ⟨by simp, _, rfl⟩
  · have hne : (k1 == k2) = false := by rw [beq_eq_false_iff_ne]; exact hk
    have HR := hid (decide_eq_false hk)
    rw [HR.out]
    clear hk hxx
    go_enter Tryz.func42, Tryz.ntmps42
    go_wp2_with fail
    go_quiet (fail)
    go_wp2
    go_ret
    exact ⟨by simp, _, rfl⟩
theorem bdrewB {B : Nat} {V w : World} (h : Below B V w) (q : Nat) : Below B V (w.drewN q) := ⟨h.os, h.tape, h.output, h.size, h.block⟩
/-- Two ways that have nothing in common. -/
def Apart (sa ta : Nat) (va : Value) (sb tb : Nat) (vb : Value) : Prop := ∀ c, (c = sa ∨ Act ta va c) → ¬ (c = sb ∨ Act tb vb c)
theorem act_next {tb : Nat} {v v' : Value} {w : World} (h : ∀ c, v'.ownBlock = some c → v.ownBlock = some c ∨ w.heap.size ≤ c) {c : Nat} (hc : Act tb v' c) : Act tb v c ∨ w.heap.size ≤ c := by
  rcases hc with hc | hc
  · exact .inl (.inl hc)
  · rcases h c hc with h | h
    · exact .inl (.inr h)
    · exact .inr h
theorem Apart.left {V w : World} {sa ta sb tb : Nat} {va va' vb : Value} {q : List (List Ex)} (h : Apart sa ta va sb tb vb) (hb : Trail V sb tb vb q w) (hf : ∀ c, va'.ownBlock = some c → va.ownBlock = some c ∨ w.heap.size ≤ c) : Apart sa ta va' sb tb vb := by
  intro c hc hd
  have hl : c < w.heap.size := by
    rcases hd with rfl | hd
    · exact hb.top.2.1
    · exact (hb.act hd).2.1
  rcases hc with hc | hc
  · exact h c (.inl hc) hd
  · rcases act_next hf hc with hc | hc
    · exact h c (.inr hc) hd
    · omega
theorem Apart.symm {sa ta sb tb : Nat} {va vb : Value} (h : Apart sa ta va sb tb vb) : Apart sb tb vb sa ta va := fun c hc hd => h c hd hc
theorem Apart.keep {V w w' : World} {sa ta sb tb : Nat} {va vb : Value} {r q : List (List Ex)} (h : Apart sa ta va sb tb vb) (ha : Trail V sa ta va r w) (hb : Trail V sb tb vb q w) (hk : Keep (Act tb vb) w w') : Trail V sa ta va r w' :=
  ha.keep hk fun c hc => ⟨(hb.act hc).1, fun e => h c (.inl e) (.inr hc), fun e => h c (.inr e) (.inr hc)⟩
set_option maxHeartbeats 8000000 in
theorem Same_any (a b : Ex) (ao : Option Addr) (an ac : Nat) (po : Option Addr) (pn pc : Nat) (bo : Option Addr) (bn bc : Nat) (qo : Option Addr) (qn qc : Nat) (w : World)
    (h : IsE w a (.slice ao an ac) (.slice po pn pc)) (k : IsE w b (.slice bo bn bc) (.slice qo qn qc)) (hz : a.size ≤ 100000000) (kz : b.size ≤ 100000000) :
    Calls Tryz.prog 19 #[exV a (.slice ao an ac) (.slice po pn pc), exV b (.slice bo bn bc) (.slice qo qn qc)] w fun r w' => ∃ m : Bool, r = .returned (.bool m) ∧ (m = true ↔ a = b) ∧ Below w.heap.size w w' := by
  obtain ⟨V, hV⟩ : ∃ V, (w.alloc (.cells #[.int .i64 a.kind, .string (text a.s), .slice ao an ac, .slice po pn pc] 25)).alloc (.cells #[.int .i64 b.kind, .string (text b.s), .slice bo bn bc, .slice qo qn qc] 25) = V := ⟨_, rfl⟩
  have BV : Below w.heap.size w V := by rw [← hV]; exact ba (ba (b0 w) _) _
  have hA := h.later BV
  have hB := k.later BV
  have BA := hid (fun (W : World) (hW : Below V.heap.size V W) => begin_any V a ao an ac po pn pc W hA hW)
  have BB := hid (fun (W : World) (hW : Below V.heap.size V W) => begin_any V b bo bn bc qo qn qc W hB hW)
  have HA := hid hA
  have HB := hid hB
  have HBV := hid BV
  have P2 : V.heap[w.heap.size]? = some (.cells #[.int .i64 a.kind, .string (text a.s), .slice ao an ac, .slice po pn pc] 25) := by
    rw [← hV]
    exact ((ba (b0 _) _).block _ (by simp)).trans (heap_alloc_new w _)
  have P3 : V.heap[w.heap.size + 1]? = some (.cells #[.int .i64 b.kind, .string (text b.s), .slice bo bn bc, .slice qo qn qc] 25) := by
    rw [← hV]
    have := heap_alloc_new (w.alloc (.cells #[.int .i64 a.kind, .string (text a.s), .slice ao an ac, .slice po pn pc] 25)) (.cells #[.int .i64 b.kind, .string (text b.s), .slice bo bn bc, .slice qo qn qc] 25)
    rw [World.size_alloc] at this
    exact this
  have HP2 := hid P2
  have HP3 := hid P3
  have a0 : V.cell? ⟨w.heap.size, 0, none⟩ = some (.int .i64 a.kind) := by rw [Lib.cell_of_heap P2]; rfl
  have a1 : V.cell? ⟨w.heap.size, 1, none⟩ = some (.string (text a.s)) := by rw [Lib.cell_of_heap P2]; rfl
  have a2 : V.cell? ⟨w.heap.size, 2, none⟩ = some (.slice ao an ac) := by rw [Lib.cell_of_heap P2]; rfl
  have a3 : V.cell? ⟨w.heap.size, 3, none⟩ = some (.slice po pn pc) := by rw [Lib.cell_of_heap P2]; rfl
  have e0 : V.cell? ⟨w.heap.size + 1, 0, none⟩ = some (.int .i64 b.kind) := by rw [Lib.cell_of_heap P3]; rfl
  have e1 : V.cell? ⟨w.heap.size + 1, 1, none⟩ = some (.string (text b.s)) := by rw [Lib.cell_of_heap P3]; rfl
  have e2 : V.cell? ⟨w.heap.size + 1, 2, none⟩ = some (.slice bo bn bc) := by rw [Lib.cell_of_heap P3]; rfl
  have e3 : V.cell? ⟨w.heap.size + 1, 3, none⟩ = some (.slice qo qn qc) := by rw [Lib.cell_of_heap P3]; rfl
  unfold exV at BA BB ⊢
  clear h k hA hB BV P2 P3
  go_enter Tryz.func19, Tryz.ntmps19
  go_upto_region 1 with fail
  clear hV
  have V0 := hid (show Below V.heap.size V V.drew from bdrew V 1)
  go_cut [5, 6] from 8 to 11 (fun x y wx => ∃ sa ta va sb tb vb, x = .pointer (some ⟨ta, 0, none⟩) ∧ y = .pointer (some ⟨tb, 0, none⟩) ∧ Hid (Trail V sa ta va [[a]] wx) ∧ Hid (Trail V sb tb vb [[b]] wx) ∧ Hid (Apart sa ta va sb tb vb))
  case first =>
    go_region_with (first
      | (go_at_call 40
         with_reducible refine (BA.out _ V0.out).mono ?_
         rintro r w1 ⟨sa, ta, va, rfl, hT, hb1, hf⟩
         have HT1 := hid hT
         have HF1 := hid hf
         have HB1 := hid (V0.out.trans hb1)
         have g3 := (HB1.out.block _ (lt_of_some HP3.out)).trans HP3.out
         have e0 : w1.cell? ⟨w.heap.size + 1, 0, none⟩ = some (.int .i64 b.kind) := by rw [Lib.cell_of_heap g3]; rfl
         have e1 : w1.cell? ⟨w.heap.size + 1, 1, none⟩ = some (.string (text b.s)) := by rw [Lib.cell_of_heap g3]; rfl
         have e2 : w1.cell? ⟨w.heap.size + 1, 2, none⟩ = some (.slice bo bn bc) := by rw [Lib.cell_of_heap g3]; rfl
         have e3 : w1.cell? ⟨w.heap.size + 1, 3, none⟩ = some (.slice qo qn qc) := by rw [Lib.cell_of_heap g3]; rfl
         clear hT hf hb1 g3)
      | (go_at_call 40
         with_reducible refine (BB.out _ HB1.out).mono ?_
         rintro r w2 ⟨sb, tb, vb, rfl, hT, hb2, hf⟩
         have HT2 := hid hT
         have HF2 := hid hf
         have HB2 := hid hb2
         clear hT hf hb2))
    all_goals go_wp2_with fail
    all_goals go_meet
    all_goals exact ⟨sa, ta, va, sb, tb, vb, rfl, rfl, hid (HT1.out.later HB2.out), HT2, hid (fun c hc hd => by
      have h1 : c < w1.heap.size := by
        rcases hc with rfl | hc
        · exact HT1.out.top.2.1
        · exact (HT1.out.act hc).2.1
      have h2 := HF2.out c hd
      omega)⟩
  case rest =>
    obtain ⟨sa, ta, va, sb, tb, vb, rfl, rfl, HT1, HT2, HAP⟩ := hcut
    have N1 := hid (next_any wc HT1.out (by simp))
    clear a0 a1 a2 a3 e0 e1 e2 e3 V0 BA BB HP2 HP3
    go_wp2_with fail
    refine N1.out.mono ?_
    rintro e w1 ⟨va1, r1, hn, hT, hf, hk⟩
    have HT3 := hid hT
    have HT4 := hid (HAP.out.symm.keep HT2.out HT1.out hk)
    have HAP1 := hid (HAP.out.left HT2.out hf)
    obtain ⟨xv, rfl⟩ : ∃ xv, e = .returned xv := by
      rcases hn with ⟨_, h, _⟩ | ⟨_, _, _, _, _, _, _, _, h, _⟩ <;> exact ⟨_, h⟩
    have HN := hid hn
    clear hT hf hk hn
    go_wp2_with fail
    go_loopg [7] a.size (fun gk xv X => ∃ va r r0 vb q0, Hid (Trail V sa ta va r X) ∧ Hid (Trail V sb tb vb q0 X) ∧ Hid (Apart sa ta va sb tb vb) ∧ Hid (NextOk V sa ta r0 (.returned xv) r X) ∧ Hid (r0.map List.length = q0.map List.length) ∧ Hid (a = b ↔ r0 = q0) ∧ Hid (r0.length + sizeS r0 ≤ a.size + 1) ∧ Hid (q0.length + sizeS q0 ≤ b.size + 1) ∧ Hid (sizeS r0 = gk))
    case atStart => exact ⟨va1, r1, [[a]], vb, [[b]], HT3, HT4, HAP1, HN, hid (by simp), hid (by simp), hid (by rw [start_size]; simp; omega), hid (by rw [start_size]; simp; omega), hid (start_size a)⟩
    case round =>
      rename World => X
      obtain ⟨va, r, r0, vb, q0, HTA, HTB, HAP, HN, HS, HE, HL1, HL2, HG⟩ := hrel
      have N2 := hid (next_any X HTB.out (by have := HL2.out; omega))
      have ht := pop_two HS.out
      rcases HN.out with ⟨h1, h2, rfl⟩ | ⟨q, x, xs, b1, o1, nv, pv, h1, h2, rfl, hat, hloc⟩
      · have hab : a = b := by
          rcases ht with ⟨_, _, h⟩ | ⟨_, _, _, _, _, _, h, _⟩
          · exact HE.out.2 h
          · rw [h1] at h; cases h
        injection h2 with h2
        subst h2
        have HAB := hid hab
        clear hab ht h1
        go_wp2
        go_ret
        exact ⟨true, rfl, by simp [HAB.out], HBV.out.trans (HTA.out.old.mono HBV.out.size)⟩
      · rcases ht with ⟨h, _⟩ | ⟨q', x', xs', p, y, ys, g1, g2, g3, g4, g5⟩
        · rw [h1] at h; cases h
        rw [h1] at g1
        simp only [Option.some.injEq, Prod.mk.injEq] at g1
        obtain ⟨rfl, rfl, rfl⟩ := g1
        injection h2 with h2
        subst h2
        have HP := hid h1
        have HQ := hid g2
        have HQ3 := hid g3
        have HQ4 := hid g4
        have HQ5 := hid g5
        have HAT := hid hat
        have HLOC := hid hloc
        clear h1 g2 g3 g4 g5 hat hloc
        go_wp2_with fail
        refine N2.out.mono ?_
        rintro e w2 ⟨vb', r', hn, hT, hf, hk⟩
        have HTB2 := hid hT
        have HTA2 := hid (HAP.out.keep HTA.out HTB.out hk)
        have HAP2 := hid (HAP.out.symm.left HTA.out hf).symm
        have hat2 := HAT.out.keep HLOC.out hk (fun c hc => ⟨(HTB.out.act hc).1, fun e => HAP.out c (.inl e) (.inr hc)⟩)
        rcases hn with ⟨g1, _, _⟩ | ⟨p', y', ys', b2, o2, nv2, pv2, g1, rfl, rfl, hat3, hloc3⟩
        · exfalso; rw [HQ.out] at g1; cases g1
        rw [HQ.out] at g1
        simp only [Option.some.injEq, Prod.mk.injEq] at g1
        obtain ⟨rfl, rfl, rfl⟩ := g1
        have AL := hid (alike_any (hat2.at HTA2.out.old) (hat3.at HTA2.out.old))
        clear hT hf hk hat2 hat3 hloc3
        by_cases hal : alikeP x y
        · rw [decide_eq_true hal] at AL
          have HAL := hid hal
          clear hal
          have N3 := hid (fun m => next_any (w2.drewN m) (HTA2.out.drew m) (by have := steps_len HP.out HL1.out; omega))
          go_wp2_with fail
          refine AL.out.mono ?_
          rintro e w3 ⟨rfl, m, rfl⟩
          go_wp2_with fail
          refine (N3.out m).mono ?_
          rintro e w4 ⟨va', r4, hn, hT, hf, hk⟩
          obtain ⟨xv, rfl⟩ : ∃ xv, e = .returned xv := by
            rcases hn with ⟨_, h, _⟩ | ⟨_, _, _, _, _, _, _, _, h, _⟩ <;> exact ⟨_, h⟩
          have HN4 := hid hn
          have HT4 := hid hT
          have HTB4 := hid (HAP2.out.symm.keep (HTB2.out.drew m) (HTA2.out.drew m) hk)
          have HAP4 := hid (HAP2.out.left (HTB2.out.drew m) hf)
          clear hn hT hf hk
          go_wp2
          go_roundg (sizeS (x.l :: xs :: q))
          case measure => have := (pop_some HP.out).1; have := HG.out; omega
          case rel => exact ⟨va', r4, x.l :: xs :: q, vb', y.l :: ys :: p, HT4, HTB4, HAP4, HN4, hid (by simp [HQ3.out, HQ4.out, HAL.out.2.2.2]), hid (by
            rw [HE.out, HQ5.out, alike_eq HAL.out]
            simp only [List.cons.injEq]
            exact ⟨fun h => ⟨h.2.1, h.2.2, h.1⟩, fun h => ⟨h.2.2, h.1, h.2.1⟩⟩), hid (steps_len HP.out HL1.out), hid (steps_len HQ.out HL2.out), hid rfl⟩
        · rw [decide_eq_false hal] at AL
          have HAL := hid hal
          clear hal
          go_wp2_with fail
          refine AL.out.mono ?_
          rintro e w3 ⟨rfl, m, rfl⟩
          go_wp2
          go_ret
          refine ⟨false, rfl, ?_, HBV.out.trans ((bdrewB HTA2.out.old m).mono HBV.out.size)⟩
          simp only [Bool.false_eq_true, false_iff]
          intro h
          exact HAL.out (alike_of (HQ5.out.1 (HE.out.1 h)).2.1)
end Go.Proofs.YtlhhjocfbafoeaaGreatDoor.Xp
