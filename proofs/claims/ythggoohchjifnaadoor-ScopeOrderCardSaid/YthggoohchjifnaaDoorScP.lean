/- Layer 9: contracts of the document's own Right, of same, of great whatever comes, of Longest at no scope. -/
import Derived.Test.YthggoohchjifnaaDoorScH
import Derived.Test.YthggoohchjifnaaDoorScM

set_option linter.unusedVariables false
set_option linter.unusedSimpArgs false
namespace Go.Proofs.YthggoohchjifnaaDoor.Sc
open Go Go.Proofs.YthggoohchjifnaaDoor Go.Proofs.YthggoohchjifnaaDoor.Utf Go.Proofs.YthggoohchjifnaaDoor.Names Go.RowKit
set_option maxRecDepth 100000

set_option maxHeartbeats 4000000 in
theorem SSame_any (u v : Value) (a b : List (List UInt8)) (w : World) (hu : Strs w u a) (hv : Strs w v b) :
    Calls Tryd.prog 15 #[u, v] w fun e w' => e = .returned (.bool (decide (a = b))) ∧ Below w.heap.size w w' := by
  have hla := fun W => hu.len (P := Tryd.prog) 22 3 9 underS W
  have hlb := fun W => hv.len (P := Tryd.prog) 22 3 9 underS W
  have hle := hu.le
  have mixed : Tryd.prog.follows Departure.mixedOrders = true := by kernel_rfl
  have HU := hid hu
  have HV := hid hv
  clear hu hv
  by_cases hn : a.length = b.length
  · rw [← hn] at hlb
    have HN := hid hn
    clear hn
    go_enter Tryd.func15, Tryd.ntmps15
    go_wp2_with fail
    go_loopw [13] (fun i wr => ∃ k : Nat, i = .int .i64 k ∧ k ≤ a.length ∧ (∀ j, j < k → a[j]? = b[j]?) ∧ Below w.heap.size w wr) (fun i _ => a.length - (intOf i).toNat)
    case atStart => exact ⟨0, rfl, by omega, fun j hj => absurd hj (Nat.not_lt_zero _), b0 _⟩
    case round =>
      obtain ⟨k, rfl, hk, hall, hbr⟩ := hrel
      have HA := hid hall
      have HB := hid hbr
      by_cases hlt : k < a.length
      · obtain ⟨b1, o1, i1, c1⟩ := (HU.out.below hbr (Nat.le_refl _)).at k hlt 22 9 underS sizeS
        obtain ⟨b2, o2, i2, c2⟩ := (HV.out.below hbr (Nat.le_refl _)).at k (by rw [← HN.out]; exact hlt) 22 9 underS sizeS
        have hq1 : a[k]? = some a[k] := List.getElem?_eq_getElem _
        have hq2 : b[k]? = some (b[k]'(by rw [← HN.out]; exact hlt)) := List.getElem?_eq_getElem _
        generalize a[k] = x at *
        generalize b[k]'(by rw [← HN.out]; exact hlt) = y at *
        have Q1 := hid hq1
        have Q2 := hid hq2
        clear hall hbr hq1 hq2
        by_cases hx : x = y
        · have hxx : ((text x).toList == (text y).toList) = true := by rw [text_beq]; simpa using hx
          have HX := hid hx
          clear hx
          go_wp2_with fail
          go_region_o
          go_wp2
          go_roundw
          case rel =>
            refine ⟨k + 1, by go_num, by omega, fun j hj => ?_, HB.out.drew⟩
            rcases Nat.lt_or_ge j k with h | h
            · exact HA.out j h
            · obtain rfl : j = k := by omega
              rw [Q1.out, Q2.out, HX.out]
          case measure => simp [intOf]; omega
        · have hxx : ((text x).toList == (text y).toList) = false := by rw [text_beq]; simpa using hx
          have HX := hid hx
          clear hx
          go_wp2_with fail
          go_region_o
          go_wp2
          go_ret
          refine ⟨?_, HB.out.drew⟩
          have : decide (a = b) = false := by
            rw [decide_eq_false_iff_not]
            intro e
            subst e
            exact HX.out (Option.some.inj (Q1.out.symm.trans Q2.out))
          rw [this]; rfl
      · clear hall hbr
        go_wp2
        go_ret
        refine ⟨?_, HB.out⟩
        have : decide (a = b) = true := by
          rw [decide_eq_true_eq]
          refine List.ext_getElem? fun j => ?_
          rcases Nat.lt_or_ge j k with h | h
          · exact HA.out j h
          · rw [List.getElem?_eq_none (by omega), List.getElem?_eq_none (by have := HN.out; omega)]
        rw [this]; rfl
  · have hne : ((a.length : Int) == (b.length : Int)) = false := by rw [beq_eq_false_iff_ne]; omega
    have hne2 : ((a.length : Int) != (b.length : Int)) = true := by rw [bne_iff_ne]; omega
    have hd : decide (a = b) = false := by rw [decide_eq_false_iff_not]; intro e; exact hn (by rw [e])
    have HD := hid hd
    clear hn hd
    go_enter Tryd.func15, Tryd.ntmps15
    go_wp2_with fail
    go_ret
    exact ⟨by rw [HD.out]; rfl, b0 _⟩

theorem RRight_any (x : List UInt8) (hx : x.length ≤ 100000) (w : World) :
    Calls Tryd.prog 22 #[.string (text x)] w fun e w' => e = .returned (.bool (rightB x)) ∧ Below w.heap.size w w' := by
  have H := hid (fun W => RWords_any x hx W)
  have hr : rightB x = (wordsO x).isSome := rfl
  go_enter Tryd.func22, Tryd.ntmps22
  go_wp2_with (go_at_call 23; refine (H.out _).mono ?_; rintro e w1 ⟨v, rfl, hv, hb⟩)
  go_ret
  exact ⟨rfl, hb⟩
set_option maxHeartbeats 1000000 in
theorem Longest_none (u : Value) (w : World) :
    Calls Tryd.prog 18 #[.pointer none, u] w fun e w' => e = .returned (.tuple #[.string (text []), .int .i64 0]) ∧ w' = w := by
  go_enter Tryd.func18, Tryd.ntmps18
  go_wp2
  go_step3
  go_wp2
  go_step3
  go_wp2
  go_loopg [0, 6, 7] 0 (fun _ s0 s6 s7 wr => s0 = .pointer none ∧ s6 = .string (text []) ∧ s7 = .int .i64 0 ∧ w = wr)
  case atStart => exact ⟨rfl, rfl, rfl, rfl⟩
  case round =>
    obtain ⟨rfl, rfl, rfl, rfl⟩ := hrel
    go_wp2
    try rw [Exit.noGoto_ret]
    go_ret2
    exact ⟨rfl, rfl⟩
set_option maxHeartbeats 2000000 in
theorem Great_loose (v : Value) (vs : List Value) (rows : List (List (List UInt8))) (w : World) (hv : Row 1 w v vs.length vs) (hr : ∀ i (h : i < vs.length), Strs w vs[i] (rows.getD i [])) :
    Calls Tryd.prog 11 #[v] w fun e w' => ∃ m : Bool, e = .returned (.bool m) ∧ w' = w := by
  have hle := hv.le
  have hlen := fun W => Row.len (P := Tryd.prog) hv 47 3 22 Tryd.underlying47 W
  have V := hid hv
  have R := hid hr
  clear hv hr
  go_enter Tryd.func11, Tryd.ntmps11
  go_wp2
  go_loopg [3, 10] vs.length (fun kx s3 s10 wr => ∃ (i : Nat) (a : Int), s3 = .int .i64 a ∧ s10 = .int .i64 i ∧ i ≤ vs.length ∧ vs.length - i ≤ kx ∧ w = wr)
  case atStart => exact ⟨0, 0, rfl, rfl, Nat.zero_le _, by omega, rfl⟩
  case round =>
    obtain ⟨i, a, rfl, rfl, hi, hg, rfl⟩ := hrel
    by_cases hil : i < vs.length
    · obtain ⟨b, o, hix, hcl⟩ := Row.at (P := Tryd.prog) V.out (by omega) i hil 47 22 Tryd.underlying47 Tryd.sizeOf22
      have hc := hcl 0 vs[i] (by omega) (by simp [hil])
      have hs := R.out i hil
      generalize rows.getD i [] = l at *
      generalize vs[i] = x at *
      have hlen2 := fun W => hs.len (P := Tryd.prog) 22 3 9 Tryd.underlying22 W
      have hll := hs.le
      have HS := hid hs
      have hc' : w.cell? ⟨b, o, none⟩ = some x := hc
      clear hs hcl hc
      go_wp2
      go_loopg [3, 20] l.length (fun kx s3 s20 wr => ∃ (j : Nat) (c : Int), s3 = .int .i64 c ∧ s20 = .int .i64 j ∧ j ≤ l.length ∧ l.length - j ≤ kx ∧ w = wr)
      case atStart => exact ⟨0, _, rfl, rfl, Nat.zero_le _, by omega, rfl⟩
      case round =>
        obtain ⟨j, c, rfl, rfl, hj, hgj, rfl⟩ := hrel
        by_cases hjl : j < l.length
        · obtain ⟨b2, o2, hix2, hcl2⟩ := HS.out.at (P := Tryd.prog) j hjl 22 9 Tryd.underlying22 Tryd.sizeOf9
          generalize text l[j] = ty at *
          go_wp2
          go_roundg (l.length - (j + 1))
          case measure => omega
          case rel => exact ⟨j + 1, _, rfl, by go_num, by omega, Nat.le_refl _, rfl⟩
        · have e : j = l.length := by omega
          subst e
          go_wp2
          go_roundg (vs.length - (i + 1))
          case measure => omega
          case rel => exact ⟨i + 1, c, rfl, by go_num, by omega, Nat.le_refl _, rfl⟩
    · go_wp2
      go_ret
      exact ⟨_, rfl, rfl⟩
end Go.Proofs.YthggoohchjifnaaDoor.Sc
