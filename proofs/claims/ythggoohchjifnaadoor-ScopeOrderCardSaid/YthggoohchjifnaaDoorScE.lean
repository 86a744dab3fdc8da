/- Layer 9: contract of Longest. -/
import Derived.Test.YthggoohchjifnaaDoorScD
set_option linter.unusedVariables false
set_option linter.unusedSimpArgs false
namespace Go.Proofs.YthggoohchjifnaaDoor.Sc
open Go Go.Proofs.YthggoohchjifnaaDoor Go.Proofs.YthggoohchjifnaaDoor.Utf Go.Proofs.YthggoohchjifnaaDoor.Names Go.RowKit
set_option maxRecDepth 100000

theorem blank_add (l : List UInt8) : (⟨#[32]⟩ : ByteArray) ++ text l = text (32 :: l) := by
  have : (⟨#[32]⟩ : ByteArray) = text [32] := rfl
  rw [this, Names.text_append]
  rfl
theorem flat_take {ls : List (List (List UInt8))} {k : Nat} (h : k < ls.length) : (ls.take (k + 1)).flatten = (ls.take k).flatten ++ ls[k] := by
  rw [List.take_succ_eq_append_getElem h, List.flatten_append]
  simp

set_option maxHeartbeats 8000000 in
theorem Longest_any (p : Option Addr) (ls : List (List (List UInt8))) (u : Value) (ws : List (List UInt8)) (w : World) (hs : IsSc (· < w.heap.size) w p ls) (hr : ∀ l ∈ ls, Rise l) (hu : Strs w u ws) (hb : (said ws).length ≤ 1000000000) :
    Calls Tryd.prog 18 #[.pointer p, u] w fun e w' => e = .returned (.tuple #[.string (text (said (ws.take (longN ls.flatten ws ws.length)))), .int .i64 (longN ls.flatten ws ws.length)]) ∧ Below w.heap.size w w' := by
  have hle := hu.le
  have hlen := fun W => hu.len (P := Tryd.prog) 22 3 9 Tryd.underlying22 W
  obtain ⟨M, hM⟩ : ∃ M, longN ls.flatten ws ws.length = M := ⟨_, rfl⟩
  rw [hM]
  have HM := hid hM
  have R := hid hr
  have S := hid hs
  have U := hid hu
  have HBD := hid hb
  have hW : ∀ i, (said (ws.take i)).length ≤ 1000000000 := fun i => Nat.le_trans (said_len ws i) hb
  have HW := hid hW
  have HG := hid (fun v l pre x W (h1 : Strs W v l) (h2 : Rise l) (h3 : ∀ y ∈ l, pre.isPrefixOf y = true) => goingOn_any v l pre x W h1 h2 h3)
  clear hM hr hs hu hb hW
  go_enter Tryd.func18, Tryd.ntmps18
  go_wp2
  go_step3
  go_wp2
  go_step3
  go_wp2
  go_loopg [0, 6, 7] ls.length (fun kx s0 s6 s7 wr => ∃ (k m : Nat) (pp : Option Addr), s0 = .pointer pp ∧ s6 = .string (text (said (ws.take m))) ∧ s7 = .int .i64 m ∧ k ≤ ls.length ∧ ls.length - k ≤ kx ∧
    Hid (m = longN (ls.take k).flatten ws ws.length ∧ IsSc (· < w.heap.size) w pp (ls.drop k) ∧ Below w.heap.size w wr))
  case atStart => exact ⟨0, 0, p, rfl, rfl, rfl, Nat.zero_le _, by omega, hid ⟨by simp [longN_nil], by rw [List.drop_zero]; exact S.out, Below.refl _ _⟩⟩
  case round =>
    obtain ⟨k, m, pp, rfl, rfl, rfl, hk, hg, I⟩ := hrel
    by_cases hl : k < ls.length
    · obtain ⟨hm0, hI, hbw⟩ := I.out
      have hd := List.drop_eq_getElem_cons hl
      rw [hd] at hI
      obtain ⟨b, po, v, rfl, hb, c0, c1, c2, hv, hn⟩ := hI
      have hml : m ≤ ws.length := by rw [hm0]; exact longN_le _ _ _
      have d1 : wr.cell? ⟨b, 1, none⟩ = some v := (hbw.cell (p := ⟨b, 1, none⟩) hb).trans c1
      have C0 := hid (fun W (h : Below w.heap.size w W) => (h.cell (p := ⟨b, 0, none⟩) hb).trans c0)
      have HV := hid hv.1
      have HN := hid hn
      have HM0 := hid hm0
      have HR := hid (R.out _ (List.getElem_mem hl))
      have HB := hid hbw
      have FT := hid (flat_take hl)
      generalize ls[k] = l at *
      clear c0 c1 c2 hv hn hb hd hm0 hbw
      go_wp2
      go_loopg [6, 7, 8, 9, 24] ws.length (fun kx s6 s7 s8 s9 s24 wr => ∃ (i mm F : Nat), s24 = .int .i64 i ∧ s9 = .int .i64 F ∧ s6 = .string (text (said (ws.take mm))) ∧ s7 = .int .i64 mm ∧ i ≤ ws.length ∧ mm ≤ ws.length ∧ ws.length - i ≤ kx ∧
        Hid (F = (said (ws.take i)).length ∧ Strs wr s8 (l.filter fun y => (said (ws.take i)).isPrefixOf y) ∧ mm = max m (longN l ws i) ∧ Below w.heap.size w wr))
      case atStart => exact ⟨0, m, 0, rfl, rfl, rfl, rfl, Nat.zero_le _, hml, by omega, hid ⟨rfl, by rw [show said (ws.take 0) = [] from rfl, filter_nil]; exact HV.out.below HB.out (Nat.le_refl _), by simp [longN], HB.out⟩⟩
      case round =>
        obtain ⟨i, mm, F, rfl, rfl, rfl, rfl, hi, hmm, hgi, J⟩ := hrel
        have hF1 : F ≤ 1000000000 := by rw [J.out.1]; exact HW.out i
        by_cases hil : i < ws.length
        · obtain ⟨bw, ow, hix, hcl⟩ := (U.out.below J.out.2.2.2 (Nat.le_refl _)).at (P := Tryd.prog) i hil 22 9 Tryd.underlying22 Tryd.sizeOf9
          obtain ⟨wd, hwd⟩ : ∃ wd, (if i = 0 then ws[i] else 32 :: ws[i]) = wd := ⟨_, rfl⟩
          have hst := said_take hil
          rw [hwd] at hst
          obtain ⟨G, hG⟩ : ∃ G, (said (ws.take (i + 1))).length = G := ⟨_, rfl⟩
          have hG1 : G ≤ 1000000000 := by rw [← hG]; exact HW.out (i + 1)
          obtain ⟨n, hn⟩ : ∃ n, wd.length = n := ⟨_, rfl⟩
          have hFG : F + n = G := by rw [← hG, hst, List.length_append, hn, J.out.1]
          have hFn : (F : Int) + (n : Int) = (G : Int) := by omega
          have hsz : (text wd).size = n := by rw [text_size, hn]
          have HGO := hid (HG.out u8 (l.filter fun y => (said (ws.take i)).isPrefixOf y) (said (ws.take i)) wd wr J.out.2.1 (rise_filter HR.out _) (fun y hy => (List.mem_filter.1 hy).2))
          rw [filter_on, ← hst, ← J.out.1] at HGO
          have HST := hid hG
          have HJ := J
          clear J hst hn hG
          have go : ∀ (a : Bool), a = decide (0 < i) → True := fun _ _ => trivial
          have HCAT := hid (blank_add ws[i])
          clear go
          have C0' := C0
          have HWD := hid hwd
          generalize ws[i] = y0 at *
          have q1 : (⟨#[32]⟩ : ByteArray) ++ text y0 = text (32 :: y0) := HCAT.out
          have q2 : (⟨#[32]⟩ : ByteArray).size + (text y0).size ≤ 9223372036854775807 := by
            have h1 : (⟨#[32]⟩ : ByteArray).size = 1 := rfl
            have h2 : (text y0).size = y0.length := text_size y0
            have h3 : y0.length ≤ wd.length := by rw [← hwd]; split <;> simp
            have h4 : wd.length = n := by rw [← text_size, hsz]
            omega
          have hwd0 : i = 0 → y0 = wd := fun e => by rw [← hwd, if_pos e]
          have hwd1 : i ≠ 0 → 32 :: y0 = wd := fun e => by rw [← hwd, if_neg e]
          clear hwd
          have step : ∀ w1 vn, Strs w1 vn (l.filter fun y => (said (ws.take (i + 1))).isPrefixOf y) → Below wr.heap.size wr w1 → Hid (Strs w1 vn (l.filter fun y => (said (ws.take (i + 1))).isPrefixOf y) ∧ Below w.heap.size w w1) := fun w1 vn h1 h2 => hid ⟨h1, HJ.out.2.2.2.trans (h2.mono HJ.out.2.2.2.size)⟩
          have HSTEP := hid step
          clear step
          by_cases h0 : i = 0
          · have hq := hwd0 h0
            have hpos : ¬ (0 : Int) < (i : Int) := by omega
            subst hq
            clear hwd0 hwd1 q1 q2 h0
            go_wp2_with fail
            refine HGO.out.mono ?_
            rintro e w1 ⟨vn, rfl, hv1, hb1⟩
            have K := HSTEP.out w1 vn hv1 hb1
            have dc := C0.out w1 K.out.2
            have hln := fun W => hv1.len (P := Tryd.prog) 22 3 9 Tryd.underlying22 W
            obtain ⟨L, hL⟩ : ∃ L, (l.filter fun y => (said (ws.take (i + 1))).isPrefixOf y) = L := ⟨_, rfl⟩
            rw [hL] at hv1 hln
            have HL := hid hL
            clear hL hb1
            cases L with
            | nil =>
              have hln0 : ∀ W, (Builtin.len_ #[22] 3 #[vn]).run Tryd.prog W = .ok (.int .i64 0) W := hln
              clear hv1 hln
              go_wp2
              go_roundg (ls.length - (k + 1))
              case measure => omega
              case rel =>
                refine ⟨k + 1, mm, po, rfl, rfl, rfl, by omega, Nat.le_refl _, hid ⟨?_, HN.out, K.out.2⟩⟩
                rw [FT.out, longN_app, ← HM0.out, HJ.out.2.2.1]
                have hall : ∀ y ∈ l, (said (ws.take (i + 1))).isPrefixOf y = false := fun y hy => by
                  have := List.filter_eq_nil_iff.1 HL.out y hy
                  exact Bool.eq_false_iff.2 this
                rcases longN_stop (by omega) hall ws.length (by omega) (Nat.le_refl _) (by omega) with h | h
                · rw [h]; rfl
                · omega
            | cons y r =>
              obtain ⟨by_, oy, hiy, hcy⟩ := hv1.at (P := Tryd.prog) 0 (by simp) 22 9 Tryd.underlying22 Tryd.sizeOf9
              have hiy' : ∀ kk W, (Instr.indexAt 22 vn (.int kk 0)).run Tryd.prog W = .ok (.pointer (some ⟨by_, oy, none⟩)) W := hiy
              have hcy' : w1.cell? ⟨by_, oy, none⟩ = some (.string (text y)) := hcy
              obtain ⟨N, hN, hN0⟩ : ∃ N, (y :: r).length = N ∧ 0 < N := ⟨_, rfl, by simp⟩
              rw [hN] at hln
              have hNN : ((N : Int) == 0) = false := beq_eq_false_iff_ne.2 (by omega)
              obtain ⟨Y, hY0⟩ : ∃ Y, y.length = Y := ⟨_, rfl⟩
              have hsy : (text y).size = Y := by rw [text_size, hY0]
              obtain ⟨f1, f2⟩ := first_pre HR.out (said (ws.take (i + 1))) HL.out
              rw [HST.out, hY0] at f1 f2
              have F1 := hid f1
              have F2 := hid f2
              have HM3 := hid HJ.out.2.2.1
              clear hv1 hiy hcy hN hY0 f1 f2
              by_cases hY : Y = G
              · subst hY
                have G1 := hid (F1.out.1 rfl)
                have G2 := hid (F2.out rfl)
                clear F1 F2
                by_cases hm : mm ≤ i
                · have hmi : (mm : Int) ≤ (i : Int) := by omega
                  go_wp2
                  go_roundg (ws.length - (i + 1))
                  case measure => omega
                  case rel =>
                    refine ⟨i + 1, i + 1, Y, by go_num, rfl, by rw [G2.out], by go_num, by omega, by omega, Nat.le_refl _, hid ⟨HST.out.symm, K.out.1, ?_, K.out.2⟩⟩
                    rw [longN_succ, if_pos G1.out]
                    have := HM3.out
                    omega
                · have hmi : ¬ (mm : Int) ≤ (i : Int) := by omega
                  go_wp2
                  go_roundg (ws.length - (i + 1))
                  case measure => omega
                  case rel =>
                    refine ⟨i + 1, mm, Y, by go_num, rfl, rfl, rfl, by omega, hmm, Nat.le_refl _, hid ⟨HST.out.symm, K.out.1, ?_, K.out.2⟩⟩
                    rw [longN_succ, if_pos G1.out]
                    have h1 := HM3.out
                    have h2 := longN_le l ws i
                    omega
              · have hYb : ((Y : Int) == (G : Int)) = false := beq_eq_false_iff_ne.2 (by omega)
                go_wp2
                go_roundg (ws.length - (i + 1))
                case measure => omega
                case rel =>
                  refine ⟨i + 1, mm, G, by go_num, rfl, rfl, rfl, by omega, hmm, Nat.le_refl _, hid ⟨HST.out.symm, K.out.1, ?_, K.out.2⟩⟩
                  rw [longN_succ, if_neg (fun h => hY (F1.out.2 h))]
                  exact HM3.out
          · have hq := hwd1 h0
            have hpos : (0 : Int) < (i : Int) := by omega
            rw [hq] at q1
            clear hwd0 hwd1 hq h0
            go_wp2_with fail
            refine HGO.out.mono ?_
            rintro e w1 ⟨vn, rfl, hv1, hb1⟩
            have K := HSTEP.out w1 vn hv1 hb1
            have dc := C0.out w1 K.out.2
            have hln := fun W => hv1.len (P := Tryd.prog) 22 3 9 Tryd.underlying22 W
            obtain ⟨L, hL⟩ : ∃ L, (l.filter fun y => (said (ws.take (i + 1))).isPrefixOf y) = L := ⟨_, rfl⟩
            rw [hL] at hv1 hln
            have HL := hid hL
            clear hL hb1
            cases L with
            | nil =>
              have hln0 : ∀ W, (Builtin.len_ #[22] 3 #[vn]).run Tryd.prog W = .ok (.int .i64 0) W := hln
              clear hv1 hln
              go_wp2
              go_roundg (ls.length - (k + 1))
              case measure => omega
              case rel =>
                refine ⟨k + 1, mm, po, rfl, rfl, rfl, by omega, Nat.le_refl _, hid ⟨?_, HN.out, K.out.2⟩⟩
                rw [FT.out, longN_app, ← HM0.out, HJ.out.2.2.1]
                have hall : ∀ y ∈ l, (said (ws.take (i + 1))).isPrefixOf y = false := fun y hy => by
                  have := List.filter_eq_nil_iff.1 HL.out y hy
                  exact Bool.eq_false_iff.2 this
                rcases longN_stop (by omega) hall ws.length (by omega) (Nat.le_refl _) (by omega) with h | h
                · rw [h]; rfl
                · omega
            | cons y r =>
              obtain ⟨by_, oy, hiy, hcy⟩ := hv1.at (P := Tryd.prog) 0 (by simp) 22 9 Tryd.underlying22 Tryd.sizeOf9
              have hiy' : ∀ kk W, (Instr.indexAt 22 vn (.int kk 0)).run Tryd.prog W = .ok (.pointer (some ⟨by_, oy, none⟩)) W := hiy
              have hcy' : w1.cell? ⟨by_, oy, none⟩ = some (.string (text y)) := hcy
              obtain ⟨N, hN, hN0⟩ : ∃ N, (y :: r).length = N ∧ 0 < N := ⟨_, rfl, by simp⟩
              rw [hN] at hln
              have hNN : ((N : Int) == 0) = false := beq_eq_false_iff_ne.2 (by omega)
              obtain ⟨Y, hY0⟩ : ∃ Y, y.length = Y := ⟨_, rfl⟩
              have hsy : (text y).size = Y := by rw [text_size, hY0]
              obtain ⟨f1, f2⟩ := first_pre HR.out (said (ws.take (i + 1))) HL.out
              rw [HST.out, hY0] at f1 f2
              have F1 := hid f1
              have F2 := hid f2
              have HM3 := hid HJ.out.2.2.1
              clear hv1 hiy hcy hN hY0 f1 f2
              by_cases hY : Y = G
              · subst hY
                have G1 := hid (F1.out.1 rfl)
                have G2 := hid (F2.out rfl)
                clear F1 F2
                by_cases hm : mm ≤ i
                · have hmi : (mm : Int) ≤ (i : Int) := by omega
                  go_wp2
                  go_roundg (ws.length - (i + 1))
                  case measure => omega
                  case rel =>
                    refine ⟨i + 1, i + 1, Y, by go_num, rfl, by rw [G2.out], by go_num, by omega, by omega, Nat.le_refl _, hid ⟨HST.out.symm, K.out.1, ?_, K.out.2⟩⟩
                    rw [longN_succ, if_pos G1.out]
                    have := HM3.out
                    omega
                · have hmi : ¬ (mm : Int) ≤ (i : Int) := by omega
                  go_wp2
                  go_roundg (ws.length - (i + 1))
                  case measure => omega
                  case rel =>
                    refine ⟨i + 1, mm, Y, by go_num, rfl, rfl, rfl, by omega, hmm, Nat.le_refl _, hid ⟨HST.out.symm, K.out.1, ?_, K.out.2⟩⟩
                    rw [longN_succ, if_pos G1.out]
                    have h1 := HM3.out
                    have h2 := longN_le l ws i
                    omega
              · have hYb : ((Y : Int) == (G : Int)) = false := beq_eq_false_iff_ne.2 (by omega)
                go_wp2
                go_roundg (ws.length - (i + 1))
                case measure => omega
                case rel =>
                  refine ⟨i + 1, mm, G, by go_num, rfl, rfl, rfl, by omega, hmm, Nat.le_refl _, hid ⟨HST.out.symm, K.out.1, ?_, K.out.2⟩⟩
                  rw [longN_succ, if_neg (fun h => hY (F1.out.2 h))]
                  exact HM3.out
        · have e : i = ws.length := by omega
          subst e
          have dc := C0.out _ J.out.2.2.2
          go_wp2
          go_roundg (ls.length - (k + 1))
          case measure => omega
          case rel =>
            refine ⟨k + 1, mm, po, rfl, rfl, rfl, by omega, Nat.le_refl _, hid ⟨?_, HN.out, J.out.2.2.2⟩⟩
            rw [FT.out, longN_app, ← HM0.out, J.out.2.2.1]
    · have hI := I.out
      rw [List.drop_of_length_le (by omega), List.take_of_length_le (by omega)] at hI
      obtain ⟨hm, hpp, hbw⟩ := hI
      obtain rfl : pp = none := hpp
      have e : m = M := hm.trans HM.out
      clear I hm
      subst e
      go_wp2
      rw [Exit.noGoto_ret]
      go_ret2
      exact ⟨rfl, hbw⟩
end Go.Proofs.YthggoohchjifnaaDoor.Sc
