/- Layer 14: contracts: isThing, allThings, the document's Right and ready. -/
import Derived.Test.YtkpmkabddhpojaaOrMem
import Derived.Test.YtkpmkabddhpojaaChecked
import Derived.WalkSpells
import Derived.WalkLawsBesides
import Derived.Laws.ResultCell
import Derived.Laws.Rows
import Derived.IntWalk
import Derived.WalkSmall
import Derived.BigQuiet
import Derived.Deep.QuietTactic
import Derived.Deep.RegionWith
import Derived.Deep.LoopGhost
set_option linter.unusedVariables false
set_option linter.unusedSimpArgs false
namespace Go.Proofs.Ytkpmkabddhpojaa.Or
open Go Go.Proofs.Ytkpmkabddhpojaa Go.RowKit
set_option maxRecDepth 100000

/-- The number of a thing. -/
def okI (n : Nat) (k : Int) : Bool := decide (0 ≤ k) && decide (k < n)
def rightB (N : List (List Int)) : Bool := N.all fun r => r.all (okI N.length)
theorem all_take {α : Type} {p : α → Bool} {l : List α} {k : Nat} (hk : k < l.length) (h : (l.take k).all p = true) (hd : p l[k] = true) : (l.take (k + 1)).all p = true := by
  rw [List.take_succ_eq_append_getElem hk, List.all_append, h]; simp [hd]
theorem all_bad {α : Type} {p : α → Bool} {l : List α} {k : Nat} (hk : k < l.length) (hd : p l[k] = false) : l.all p = false := by
  rw [List.all_eq_false]
  exact ⟨l[k], List.getElem_mem hk, by rw [hd]; simp⟩
theorem all_end {α : Type} {p : α → Bool} {l : List α} {k : Nat} (hk : ¬ k < l.length) (h : (l.take k).all p = true) : l.all p = true := by
  rwa [List.take_of_length_le (by omega)] at h

set_option maxHeartbeats 1000000 in
theorem isThing_any (v : Value) (n : Nat) (k : Int) (w : World) (hlen : ∀ W, (Builtin.len_ #[23] 3 #[v]).run Try.prog W = .ok (.int .i64 n) W) :
    Calls Try.prog 25 #[v, .int .i64 k] w fun e w' => e = .returned (.bool (okI n k)) ∧ w = w' := by
  obtain ⟨r, hr⟩ : ∃ r, okI n k = r := ⟨_, rfl⟩
  rw [hr]
  have HR := hid hr
  clear hr
  by_cases h1 : 0 ≤ k
  · by_cases h2 : k < n
    · go_enter Try.func25, Try.ntmps25
      go_wp2
      go_ret
      exact ⟨by rw [← HR.out]; simp [okI, h1, h2], rfl⟩
    · go_enter Try.func25, Try.ntmps25
      go_wp2
      go_ret
      exact ⟨by rw [← HR.out]; simp [okI, h1, h2], rfl⟩
  · go_enter Try.func25, Try.ntmps25
    go_wp2
    go_ret
    exact ⟨by rw [← HR.out]; simp [okI]; omega, rfl⟩

set_option maxHeartbeats 2000000 in
theorem allThings_any {D : Nat → Prop} (v : Value) (N : List (List Int)) (w : World) (hv : Nd encI D w v N) :
    Calls Try.prog 19 #[v] w fun e w' => e = .returned (.bool (rightB N)) ∧ w = w' := by
  have hle := hv.le
  have hlen := fun W => hv.len (P := Try.prog) 23 3 26 Try.underlying23 W
  have IT := hid (fun k W => isThing_any v N.length k W hlen)
  have V := hid hv
  obtain ⟨r, hr⟩ : ∃ r, rightB N = r := ⟨_, rfl⟩
  rw [hr]
  have HR := hid hr
  clear hv hr
  go_enter Try.func19, Try.ntmps19
  go_wp2
  go_loopg [9] N.length (fun kx s9 wr => ∃ i : Nat, s9 = .int .i64 i ∧ i ≤ N.length ∧ N.length - i ≤ kx ∧ w = wr ∧ Hid ((N.take i).all (fun r => r.all (okI N.length)) = true))
  case atStart => exact ⟨0, rfl, Nat.zero_le _, by omega, rfl, hid rfl⟩
  case round =>
    obtain ⟨i, rfl, hi, hg, rfl, I⟩ := hrel
    by_cases hil : i < N.length
    · obtain ⟨b, o, x, hix, hc, hx⟩ := V.out.at (P := Try.prog) i hil 23 26 Try.underlying23 Try.sizeOf26
      have HST := hid (fun h => all_take (p := fun r : List Int => r.all (okI N.length)) hil I.out h)
      have HBAD := hid (fun h => all_bad (p := fun r : List Int => r.all (okI N.length)) hil h)
      generalize N[i] = l at *
      have hx1 := hx.1
      rw [show (l.map encI) = l.map encI from rfl] at hx1
      have hlen2 := fun W => hx1.len (P := Try.prog) 26 3 3 Try.underlying26 W
      have HX := hid hx1
      have hl2 := hx1.le
      clear hx hx1
      go_wp2
      go_loopg [15] l.length (fun kx s15 wr => ∃ j : Nat, s15 = .int .i64 j ∧ j ≤ l.length ∧ l.length - j ≤ kx ∧ w = wr ∧ Hid ((l.take j).all (okI N.length) = true))
      case atStart => exact ⟨0, rfl, Nat.zero_le _, by omega, rfl, hid rfl⟩
      case round =>
        obtain ⟨j, rfl, hj, hgj, rfl, J⟩ := hrel
        by_cases hjl : j < l.length
        · obtain ⟨b2, o2, hix2, hc2⟩ := row_at (P := Try.prog) HX.out j hjl 26 3 Try.underlying26 Try.sizeOf3
          simp only [encI] at hc2
          have HS2 := hid (fun h => all_take (p := okI N.length) hjl J.out h)
          have HB2 := hid (fun h => all_bad (p := okI N.length) hjl h)
          generalize l[j] = y at *
          have TH := hid (IT.out y w)
          cases hk : okI N.length y with
          | true =>
            rw [hk] at TH
            have HK := hid hk
            clear hk
            go_wp2_with fail
            refine TH.out.mono ?_
            rintro e w1 ⟨rfl, rfl⟩
            go_wp2
            go_roundg (l.length - (j + 1))
            case measure => omega
            case rel => exact ⟨j + 1, by go_num, by omega, Nat.le_refl _, rfl, hid (HS2.out HK.out)⟩
          | false =>
            rw [hk] at TH
            have HK := hid hk
            clear hk
            go_wp2_with fail
            refine TH.out.mono ?_
            rintro e w1 ⟨rfl, rfl⟩
            go_wp2
            go_ret
            exact ⟨by rw [← HR.out]; unfold rightB; rw [HBAD.out (HB2.out HK.out)]; rfl, rfl⟩
        · have HE := hid (all_end hjl J.out)
          go_wp2
          go_roundg (N.length - (i + 1))
          case measure => omega
          case rel => exact ⟨i + 1, by go_num, by omega, Nat.le_refl _, rfl, hid (HST.out HE.out)⟩
    · have HE := hid (all_end hil I.out)
      go_wp2
      go_ret
      exact ⟨by rw [← HR.out]; unfold rightB; rw [HE.out]; rfl, rfl⟩

set_option maxHeartbeats 2000000 in
theorem Right_any {D : Nat → Prop} (v : Value) (N : List (List Int)) (w : World) (hv : Nd encI D w v N) :
    Calls Try.prog 16 #[v] w fun e w' => e = .returned (.bool (rightB N)) ∧ w = w' := by
  have hle := hv.le
  have hlen := fun W => hv.len (P := Try.prog) 23 3 26 Try.underlying23 W
  have V := hid hv
  obtain ⟨r, hr⟩ : ∃ r, rightB N = r := ⟨_, rfl⟩
  rw [hr]
  have HR := hid hr
  clear hv hr
  go_enter Try.func16, Try.ntmps16
  go_wp2
  go_loopg [3] N.length (fun kx s9 wr => ∃ i : Nat, s9 = .int .i64 i ∧ i ≤ N.length ∧ N.length - i ≤ kx ∧ w = wr ∧ Hid ((N.take i).all (fun r => r.all (okI N.length)) = true))
  case atStart => exact ⟨0, rfl, Nat.zero_le _, by omega, rfl, hid rfl⟩
  case round =>
    obtain ⟨i, rfl, hi, hg, rfl, I⟩ := hrel
    by_cases hil : i < N.length
    · obtain ⟨b, o, x, hix, hc, hx⟩ := V.out.at (P := Try.prog) i hil 23 26 Try.underlying23 Try.sizeOf26
      have HST := hid (fun h => all_take (p := fun r : List Int => r.all (okI N.length)) hil I.out h)
      have HBAD := hid (fun h => all_bad (p := fun r : List Int => r.all (okI N.length)) hil h)
      generalize N[i] = l at *
      have hx1 := hx.1
      have hlen2 := fun W => hx1.len (P := Try.prog) 26 3 3 Try.underlying26 W
      have HX := hid hx1
      have hl2 := hx1.le
      clear hx hx1
      go_wp2
      go_loopg [4] l.length (fun kx s15 wr => ∃ j : Nat, s15 = .int .i64 j ∧ j ≤ l.length ∧ l.length - j ≤ kx ∧ w = wr ∧ Hid ((l.take j).all (okI N.length) = true))
      case atStart => exact ⟨0, rfl, Nat.zero_le _, by omega, rfl, hid rfl⟩
      case round =>
        obtain ⟨j, rfl, hj, hgj, rfl, J⟩ := hrel
        by_cases hjl : j < l.length
        · obtain ⟨b2, o2, hix2, hc2⟩ := row_at (P := Try.prog) HX.out j hjl 26 3 Try.underlying26 Try.sizeOf3
          simp only [encI] at hc2
          have HS2 := hid (fun h => all_take (p := okI N.length) hjl J.out h)
          have HB2 := hid (fun h => all_bad (p := okI N.length) hjl h)
          generalize l[j] = y at *
          by_cases h1 : y < 0
          · have HK := hid (show okI N.length y = false by simp [okI]; omega)
            go_wp2
            go_ret
            exact ⟨by rw [← HR.out]; unfold rightB; rw [HBAD.out (HB2.out HK.out)]; rfl, rfl⟩
          · by_cases h2 : (N.length : Int) ≤ y
            · have HK := hid (show okI N.length y = false by simp [okI]; omega)
              go_wp2
              go_ret
              exact ⟨by rw [← HR.out]; unfold rightB; rw [HBAD.out (HB2.out HK.out)]; rfl, rfl⟩
            · have HK := hid (show okI N.length y = true by simp [okI]; omega)
              go_wp2
              go_roundg (l.length - (j + 1))
              case measure => omega
              case rel => exact ⟨j + 1, by go_num, by omega, Nat.le_refl _, rfl, hid (HS2.out HK.out)⟩
        · have HE := hid (all_end hjl J.out)
          go_wp2
          go_roundg (N.length - (i + 1))
          case measure => omega
          case rel => exact ⟨i + 1, by go_num, by omega, Nat.le_refl _, rfl, hid (HST.out HE.out)⟩
    · have HE := hid (all_end hil I.out)
      go_wp2
      go_ret
      exact ⟨by rw [← HR.out]; unfold rightB; rw [HE.out]; rfl, rfl⟩

/-- Are all of these marked? -/
def marked (m : List Bool) (l : List Nat) : Bool := l.all fun k => m.getD k false
set_option maxHeartbeats 2000000 in
theorem ready_any (x v : Value) (l : List Nat) (m : List Bool) (w : World) (hx : Row 1 w x l.length (nums l)) (hv : Row 1 w v m.length (bools m)) (hl : ∀ k ∈ l, k < m.length) :
    Calls Try.prog 37 #[x, v] w fun e w' => e = .returned (.bool (marked m l)) ∧ w = w' := by
  have hle := hx.le
  have hle2 := hv.le
  have hlen := fun W => hx.len (P := Try.prog) 26 3 3 Try.underlying26 W
  have X := hid hx
  have V := hid hv
  have HL := hid hl
  obtain ⟨r, hr⟩ : ∃ r, marked m l = r := ⟨_, rfl⟩
  rw [hr]
  have HR := hid hr
  clear hv hx hl hr
  go_enter Try.func37, Try.ntmps37
  go_wp2
  go_loopg [5] l.length (fun kx s15 wr => ∃ j : Nat, s15 = .int .i64 j ∧ j ≤ l.length ∧ l.length - j ≤ kx ∧ w = wr ∧ Hid (marked m (l.take j) = true))
  case atStart => exact ⟨0, rfl, Nat.zero_le _, by omega, rfl, hid rfl⟩
  case round =>
    obtain ⟨j, rfl, hj, hgj, rfl, J⟩ := hrel
    by_cases hjl : j < l.length
    · obtain ⟨b2, o2, hix2, hc2⟩ := row_at (P := Try.prog) X.out j hjl 26 3 Try.underlying26 Try.sizeOf3
      simp only [encN] at hc2
      have hk := HL.out l[j] (List.getElem_mem hjl)
      have HS2 := hid (fun h => all_take (p := fun k => m.getD k false) hjl J.out h)
      have HB2 := hid (fun h => all_bad (p := fun k => m.getD k false) hjl h)
      generalize l[j] = y at *
      obtain ⟨b3, o3, hix3, hc3⟩ := row_at (P := Try.prog) (enc := Value.bool) V.out y hk 46 4 Try.underlying46 Try.sizeOf4
      have hy : m.getD y false = m[y] := by simp [hk]
      rw [hy] at HS2 HB2
      generalize m[y] = z at *
      cases z with
      | true =>
        clear hy
        go_wp2
        go_roundg (l.length - (j + 1))
        case measure => omega
        case rel => exact ⟨j + 1, by go_num, by omega, Nat.le_refl _, rfl, hid (HS2.out (by first | rfl | trivial))⟩
      | false =>
        clear hy
        go_wp2
        go_ret
        exact ⟨by rw [← HR.out]; unfold marked; rw [HB2.out (by first | rfl | trivial)]; rfl, rfl⟩
    · have HE := hid (all_end hjl J.out)
      go_wp2
      go_ret
      exact ⟨by rw [← HR.out]; unfold marked; rw [HE.out]; rfl, rfl⟩
end Go.Proofs.Ytkpmkabddhpojaa.Or
