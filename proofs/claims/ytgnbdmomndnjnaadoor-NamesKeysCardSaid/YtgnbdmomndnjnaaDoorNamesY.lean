/- Layer 2: contracts of the statements' own same and alive. -/
import Derived.Test.YtgnbdmomndnjnaaDoorNamesX
set_option linter.unusedVariables false
set_option linter.unusedSimpArgs false
namespace Go.Proofs.YtgnbdmomndnjnaaDoor.Names
open Go Go.Proofs.YtgnbdmomndnjnaaDoor Go.Proofs.YtgnbdmomndnjnaaDoor.Utf Go.RowKit
set_option maxRecDepth 100000

set_option maxHeartbeats 2000000 in
theorem same_any (u v : Value) (a b : List (List UInt8)) (w : World) (hu : Strs w u a) (hv : Strs w v b) :
    Calls Tryd.prog 16 #[u, v] w fun e w' => e = .returned (.bool (decide (a = b))) ∧ Below w.heap.size w w' := by
  have hla := fun W => hu.len (P := Tryd.prog) 29 3 9 underS W
  have hlb := fun W => hv.len (P := Tryd.prog) 29 3 9 underS W
  have hle := hu.le
  have mixed : Tryd.prog.follows Departure.mixedOrders = true := by kernel_rfl
  have HU := hid hu
  have HV := hid hv
  clear hu hv
  by_cases hn : a.length = b.length
  · rw [← hn] at hlb
    have HN := hid hn
    clear hn
    go_enter Tryd.func16, Tryd.ntmps16
    go_wp2_with fail
    go_loopw [13] (fun i wr => ∃ k : Nat, i = .int .i64 k ∧ k ≤ a.length ∧ (∀ j, j < k → a[j]? = b[j]?) ∧ Below w.heap.size w wr) (fun i _ => a.length - (intOf i).toNat)
    case atStart => exact ⟨0, rfl, by omega, fun j hj => absurd hj (Nat.not_lt_zero _), b0 _⟩
    case round =>
      obtain ⟨k, rfl, hk, hall, hbr⟩ := hrel
      have HA := hid hall
      have HB := hid hbr
      by_cases hlt : k < a.length
      · obtain ⟨b1, o1, i1, c1⟩ := (HU.out.below hbr (Nat.le_refl _)).at k hlt 29 9 underS sizeS
        obtain ⟨b2, o2, i2, c2⟩ := (HV.out.below hbr (Nat.le_refl _)).at k (by rw [← HN.out]; exact hlt) 29 9 underS sizeS
        have hq1 : a[k]? = some a[k] := List.getElem?_eq_getElem _
        have hq2 : b[k]? = some (b[k]'(by rw [← HN.out]; exact hlt)) := List.getElem?_eq_getElem _
        generalize a[k] = x at *
        generalize b[k]'(by rw [← HN.out]; exact hlt) = y at *
        have Q1 := hid hq1
        have Q2 := hid hq2
        clear hall hbr hq1 hq2
        by_cases hx : x = y
        · have hxx : ((text x).toList == (text y).toList) = true := by rw [text_beq]; simpa using hx
          have HX := hid hx
          clear hx
          go_wp2_with fail
          go_region_o
          go_wp2
          go_roundw
          case rel =>
            refine ⟨k + 1, by go_num, by omega, fun j hj => ?_, HB.out.drew⟩
            rcases Nat.lt_or_ge j k with h | h
            · exact HA.out j h
            · obtain rfl : j = k := by omega
              rw [Q1.out, Q2.out, HX.out]
          case measure => simp [intOf]; omega
        · have hxx : ((text x).toList == (text y).toList) = false := by rw [text_beq]; simpa using hx
          have HX := hid hx
          clear hx
          go_wp2_with fail
          go_region_o
          go_wp2
          go_ret
          refine ⟨?_, HB.out.drew⟩
          have : decide (a = b) = false := by
            rw [decide_eq_false_iff_not]
            intro e
            subst e
            exact HX.out (Option.some.inj (Q1.out.symm.trans Q2.out))
          rw [this]; rfl
      · clear hall hbr
        go_wp2
        go_ret
        refine ⟨?_, HB.out⟩
        have : decide (a = b) = true := by
          rw [decide_eq_true_eq]
          refine List.ext_getElem? fun j => ?_
          rcases Nat.lt_or_ge j k with h | h
          · exact HA.out j h
          · rw [List.getElem?_eq_none (by omega), List.getElem?_eq_none (by have := HN.out; omega)]
        rw [this]; rfl
  · have hne : ((a.length : Int) == (b.length : Int)) = false := by rw [beq_eq_false_iff_ne]; omega
    have hne2 : ((a.length : Int) != (b.length : Int)) = true := by rw [bne_iff_ne]; omega
    have hd : decide (a = b) = false := by rw [decide_eq_false_iff_not]; intro e; exact hn (by rw [e])
    have HD := hid hd
    clear hn hd
    go_enter Tryd.func16, Tryd.ntmps16
    go_wp2_with fail
    go_ret
    exact ⟨by rw [HD.out]; rfl, b0 _⟩

theorem ex1 : splitA [97, 58, 98, 45, 49] = [97] ∧ splitB [97, 58, 98, 45, 49] = [98, 45, 49] ∧ splitE [97, 58, 98, 45, 49] = 0 := by decide +kernel
theorem ex2 : splitA [97, 58, 98, 58, 99] = [] ∧ splitB [97, 58, 98, 58, 99] = [] ∧ splitE [97, 58, 98, 58, 99] = 6 := by decide +kernel
theorem ex3 : wordsO [110, 101, 116, 32, 112, 114, 105, 99, 101] = some [[110, 101, 116], [112, 114, 105, 99, 101]] := by decide +kernel
theorem ex4 : wordsO [105, 102, 32, 120] = none := by decide +kernel

set_option maxHeartbeats 2000000 in
theorem alive_any (w : World) : Calls Tryd.prog 9 #[] w fun e w' => e = .returned (.bool true) ∧ Below w.heap.size w w' := by
  have s1 := fun w => Split_any [97, 58, 98, 45, 49] (by simp) w
  rw [ex1.1, ex1.2.1, ex1.2.2] at s1
  have s2 := fun w => Split_any [97, 58, 98, 58, 99] (by simp) w
  rw [ex2.1, ex2.2.1, ex2.2.2] at s2
  have s3 := fun w => Words_any [110, 101, 116, 32, 112, 114, 105, 99, 101] (by simp) w
  rw [ex3] at s3
  have s4 := fun w => Words_any [105, 102, 32, 120] (by simp) w
  rw [ex4] at s4
  have S1 := hid s1
  have S2 := hid s2
  have S3 := hid s3
  have S4 := hid s4
  clear s1 s2 s3 s4
  have t1 : (text [97]).toList = [97] := text_list _
  have t2 : (text [98, 45, 49]).toList = [98, 45, 49] := text_list _
  go_enter Tryd.func9, Tryd.ntmps9
  go_wp2_with fail
  refine (S1.out _).mono ?_
  rintro e w1 ⟨rfl, hb1⟩
  go_wp2_with fail
  refine (S2.out _).mono ?_
  rintro e w2 ⟨rfl, hb2⟩
  go_wp2_with fail
  refine (S3.out _).mono ?_
  rintro e w3 ⟨v3, rfl, hv3, hb3⟩
  go_wp2_with fail
  refine (S4.out _).mono ?_
  rintro e w4 ⟨v4, rfl, hv4, hb4⟩
  have HV3 := hid (hv3.below hb4 (Nat.le_refl _))
  clear hv3 hv4
  go_wp2_with fail
  have hs := same_any v3 (.slice (some ⟨w4.heap.size, 0, none⟩) 2 2) [[110, 101, 116], [112, 114, 105, 99, 101]] [[110, 101, 116], [112, 114, 105, 99, 101]] (w4.alloc (.cells #[.string ⟨#[110, 101, 116]⟩, .string ⟨#[112, 114, 105, 99, 101]⟩] 9)) (HV3.out.below (ba (b0 _) _) (Nat.le_refl _)) (Row.ofBuild w4 _ _ 2 rfl (by omega))
  rw [decide_eq_true rfl] at hs
  refine hs.mono ?_
  rintro e w5 ⟨rfl, hb5⟩
  go_wp2
  go_ret
  exact ⟨rfl, (ba (bt (bt (bt hb1 hb2) hb3) hb4) _).trans (hb5.mono (by have := (bt (bt (bt hb1 hb2) hb3) hb4).size; simp; omega))⟩
end Go.Proofs.YtgnbdmomndnjnaaDoor.Names
