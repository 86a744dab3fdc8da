/- Layer 10: contracts of tooDeep, Depth, Count. -/
import Derived.Test.YtkmdclfkmmlloaaGreatDoorXpN
set_option linter.unusedVariables false
set_option linter.unusedSimpArgs false
namespace Go.Proofs.YtkmdclfkmmlloaaGreatDoor.Xp
open Go Go.Proofs.YtkmdclfkmmlloaaGreatDoor Go.RowKit
set_option maxRecDepth 100000

/-- An expression that is boxed. -/
theorem boxed {w : World} {e : Ex} {nv pv : Value} (h : IsE w e nv pv) : IsE (w.alloc (.cells #[.int .i64 e.kind, .string (text e.s), nv, pv] 25)) e nv pv := h.later (ba (b0 w) _)
theorem steps_len {r q : List (List Ex)} {x : Ex} {xs : List Ex} {n : Nat} (h : pop r = some (q, x, xs)) (hn : r.length + sizeS r ≤ n) : (x.l :: xs :: q).length + sizeS (x.l :: xs :: q) ≤ n := by
  obtain ⟨h1, h2, h3⟩ := pop_some h
  simp only [List.length_cons]
  omega
theorem start_size (e : Ex) : sizeS [[e]] = e.size := by simp [sizeS, sizeL]
theorem start_depth (e : Ex) : depthS [[e]] = e.depth := by simp [depthS, depthL]
set_option maxHeartbeats 4000000 in
theorem tooDeep_any (e : Ex) (ao : Option Addr) (an ac : Nat) (po : Option Addr) (pn pc : Nat) (w : World) (h : IsE w e (.slice ao an ac) (.slice po pn pc)) (hz : e.size ≤ 100000000) :
    Calls Tryz.prog 49 #[exV e (.slice ao an ac) (.slice po pn pc)] w fun r w' => r = .returned (.bool (decide (200 < e.depth))) ∧ Below w.heap.size w w' := by
  have BG := hid (begin_any _ e ao an ac po pn pc _ (boxed h) (b0 _))
  have B1 := hid (ba (b0 w) (.cells #[.int .i64 e.kind, .string (text e.s), .slice ao an ac, .slice po pn pc] 25))
  unfold exV at BG ⊢
  clear h
  go_enter Tryz.func49, Tryz.ntmps49
  go_wp2_with fail
  refine BG.out.mono ?_
  rintro r w1 ⟨s1, tb, v, rfl, hT, hb1, _⟩
  have HT1 := hid hT
  have HB1 := hid hb1
  clear hT hb1
  obtain ⟨V, hV⟩ : ∃ V, w.alloc (.cells #[.int .i64 e.kind, .string (text e.s), .slice ao an ac, .slice po pn pc] 25) = V := ⟨_, rfl⟩
  rw [hV] at B1 HT1
  clear hV HB1
  go_wp2_with fail
  go_loopg [7] e.size (fun gk _ X => ∃ v r, Hid (Trail V s1 tb v r X) ∧ Hid (sizeS r = gk) ∧ Hid (r.length + sizeS r ≤ e.size + 1) ∧ Hid (200 < e.depth ↔ 200 < depthS r))
  case atStart => exact ⟨v, [[e]], HT1, hid (start_size e), hid (by rw [start_size]; simp; omega), hid (by rw [start_depth])⟩
  case round =>
    rename World => X
    obtain ⟨v, r, HT, HG, HL, HD⟩ := hrel
    have NX := hid (next_any X HT.out (by have := HL.out; omega))
    go_wp2_with fail
    refine NX.out.mono ?_
    rintro e' w2 ⟨v', r', hn, hT, _, _⟩
    have HT2 := hid hT
    clear hT
    rcases hn with ⟨h1, rfl, rfl⟩ | ⟨q, x, xs, b, o, nv, pv, h1, rfl, rfl, _, _⟩
    · have hd0 : decide (200 < e.depth) = false := by
        have := (pop_none h1).2
        have := HD.out
        simp; omega
      have HDD := hid hd0
      clear hd0
      clear h1
      go_wp2
      go_ret
      exact ⟨by rw [HDD.out]; rfl, B1.out.trans (HT2.out.old.mono B1.out.size)⟩
    · have HH := hid h1
      have hql : q.length ≤ 100000000 := by
        have h2 := steps_len h1 HL.out
        simp at h2
        omega
      have DP := hid (deep_any w2 HT2.out (by simp; omega))
      have e1 : (((x.l :: xs :: q).length : Nat) : Int) - 1 = (q.length : Int) + 1 := by simp only [List.length_cons]; omega
      rw [e1] at DP
      clear h1 e1
      by_cases c : 200 < q.length + 1
      · have ci : (200 : Int) < (q.length : Int) + 1 := by omega
        have hd0 : decide (200 < e.depth) = true := by
          have := (pop_some HH.out).2.1
          have := HD.out
          simp; omega
        have HDD := hid hd0
        clear hd0
        clear c
        go_wp2_with fail
        refine DP.out.mono ?_
        rintro e2 w3 ⟨rfl, rfl⟩
        go_wp2
        go_ret
        exact ⟨by rw [HDD.out]; rfl, B1.out.trans (HT2.out.old.mono B1.out.size)⟩
      · have ci : ¬ (200 : Int) < (q.length : Int) + 1 := by omega
        have HC := hid c
        clear c
        go_wp2_with fail
        refine DP.out.mono ?_
        rintro e2 w3 ⟨rfl, rfl⟩
        go_wp2
        go_roundg (sizeS (x.l :: xs :: q))
        case measure => have := (pop_some HH.out).1; have := HG.out; omega
        case rel => exact ⟨v', x.l :: xs :: q, HT2, hid rfl, hid (steps_len HH.out HL.out), hid (by
          have := (pop_some HH.out).2.1
          have := HD.out
          have := HC.out
          omega)⟩
end Go.Proofs.YtkmdclfkmmlloaaGreatDoor.Xp
