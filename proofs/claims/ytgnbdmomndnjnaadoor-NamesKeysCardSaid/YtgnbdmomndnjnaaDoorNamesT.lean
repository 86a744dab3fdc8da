/- Layer 2: contract of the document's own answer to Split. -/
import Derived.Test.YtgnbdmomndnjnaaDoorNamesR
import Derived.Test.YtgnbdmomndnjnaaDoorNamesS
set_option linter.unusedVariables false
set_option linter.unusedSimpArgs false
namespace Go.Proofs.YtgnbdmomndnjnaaDoor.Names
open Go Go.Proofs.YtgnbdmomndnjnaaDoor Go.Proofs.YtgnbdmomndnjnaaDoor.Utf Go.RowKit
set_option maxRecDepth 100000

/-- A byte of a text, as the walk reads it. -/
theorem text_idx (l : List UInt8) (k : Nat) (hk : k < l.length) (h : k < (text l).size) : ((text l)[k]'h).toNat = (l[k]'hk).toNat := rfl
theorem text_at {l : List UInt8} {k : Nat} {x : UInt8} (hx : l[k]? = some x) (h : k < (text l).size) : ((text l)[k]'h).toNat = x.toNat := by
  have hk := (List.getElem?_eq_some_iff.1 hx).1
  rw [List.getElem?_eq_getElem hk] at hx
  rw [text_idx l k hk h, Option.some.inj hx]

set_option maxHeartbeats 2000000 in
theorem RSplit_any (l : List UInt8) (hl : l.length ≤ 1000000) (w : World) :
    Calls Tryd.prog 11 #[.string (text l)] w fun e w' => e = .returned (.tuple #[.string (text (splitA l)), .string (text (splitB l)), .bool (splitO l).isSome]) ∧ Below w.heap.size w w' := by
  have HSZ := hid (text_size l)
  go_enter Tryd.func11, Tryd.ntmps11
  go_wp2_with fail
  go_loop [5] (fun i => ∃ k : Nat, i = .int .i64 k ∧ k ≤ l.length ∧ ∀ j, j < k → l[j]? ≠ some 58) (fun i => l.length - (intOf i).toNat)
  case atStart => exact ⟨0, rfl, by omega, fun j hj => absurd hj (Nat.not_lt_zero _)⟩
  case round =>
    obtain ⟨k, rfl, hk, hno⟩ := hrel
    have HNO := hid hno
    by_cases hlt : k < l.length
    · have hps : k < (text l).size := by rw [HSZ.out]; exact hlt
      obtain ⟨x, hq⟩ : ∃ x, l[k]? = some x := ⟨_, List.getElem?_eq_getElem hlt⟩
      have hid1 := text_at hq hps
      by_cases hx : x = 58
      · have hxx : ((((text l)[k]'hps).toNat : Int) == 58) = true := by rw [hid1, hx]; rfl
        have hf : firstAt 58 l = some k := firstAt_is (by rw [hq, hx]) hno
        have hs : splitO l = if plainB (l.take k) && plainB (l.drop (k + 1)) then some (l.take k, l.drop (k + 1)) else none := by unfold splitO; rw [hf]
        have P1 := hid (fun w => RPlain_any (l.take k) (by simp; omega) w)
        have P2 := hid (fun w => RPlain_any (l.drop (k + 1)) (by simp; omega) w)
        have h2 : (k : Int) ≤ ((text l).size : Int) := by omega
        have h4 : (k : Int) + 1 ≤ ((text l).size : Int) := by omega
        have ex0 := text_zero l k
        have ex1 := text_extract l (k + 1)
        cases hp : plainB (l.take k)
        · rw [hp] at P1 hs
          have S := hid (show splitO l = none by rw [hs]; rfl)
          clear hs hf hx hid1 hq hno hp
          go_wp2_with (go_at_call 13; refine (P1.out _).mono ?_; rintro e w1 ⟨rfl, hb1⟩)
          go_ret3
          exact ⟨by unfold splitA splitB; rw [S.out]; rfl, hb1⟩
        · rw [hp] at P1 hs
          cases hp2 : plainB (l.drop (k + 1))
          · rw [hp2] at P2 hs
            have S := hid (show splitO l = none by rw [hs]; rfl)
            clear hs hf hx hid1 hq hno hp hp2
            go_wp2_with fail
            refine (P1.out _).mono ?_
            rintro e w1 ⟨rfl, hb1⟩
            go_wp2_with (go_at_call 13; refine (P2.out _).mono ?_; rintro e w2 ⟨rfl, hb2⟩)
            go_ret3
            exact ⟨by unfold splitA splitB; rw [S.out]; rfl, bt hb1 hb2⟩
          · rw [hp2] at P2 hs
            have S := hid (show splitO l = some (l.take k, l.drop (k + 1)) by rw [hs]; rfl)
            clear hs hf hx hid1 hq hno hp hp2
            go_wp2_with fail
            refine (P1.out _).mono ?_
            rintro e w1 ⟨rfl, hb1⟩
            go_wp2_with (go_at_call 13; refine (P2.out _).mono ?_; rintro e w2 ⟨rfl, hb2⟩)
            go_ret3
            exact ⟨by unfold splitA splitB; rw [S.out]; rfl, bt hb1 hb2⟩
      · have hxx : ((((text l)[k]'hps).toNat : Int) == 58) = false := by
          rw [hid1, beq_eq_false_iff_ne]
          intro e
          exact hx (UInt8.toNat_inj.1 (by have : (58 : UInt8).toNat = 58 := rfl; omega))
        have HX := hid hx
        have HQ := hid hq
        clear hx hid1 hq hno
        go_wp2
        go_round
        case rel =>
          refine ⟨k + 1, by go_num, by omega, fun j hj => ?_⟩
          rcases Nat.lt_or_ge j k with h | h
          · exact HNO.out j h
          · obtain rfl : j = k := by omega
            rw [HQ.out]
            intro e; exact HX.out (Option.some.inj e)
        case measure => simp [intOf]; omega
    · have hf : firstAt 58 l = none := by
        refine firstAt_no fun j => ?_
        rcases Nat.lt_or_ge j k with h | h
        · exact hno j h
        · rw [List.getElem?_eq_none (by omega)]; simp
      have hps : ¬ (k : Int) < ((text l).size : Int) := by rw [HSZ.out]; omega
      have P := hid (fun w => RPlain_any l hl w)
      have hs : splitO l = if plainB l then some ([], l) else none := by unfold splitO; rw [hf]
      cases hp : plainB l
      · rw [hp] at P hs
        have S := hid (show splitO l = none by rw [hs]; rfl)
        clear hs hf hno hp
        go_wp2_with (go_at_call 13; refine (P.out _).mono ?_; rintro e w1 ⟨rfl, hb1⟩)
        go_ret3
        exact ⟨by unfold splitA splitB; rw [S.out]; rfl, hb1⟩
      · rw [hp] at P hs
        have S := hid (show splitO l = some ([], l) by rw [hs]; rfl)
        clear hs hf hno hp
        go_wp2_with (go_at_call 13; refine (P.out _).mono ?_; rintro e w1 ⟨rfl, hb1⟩)
        go_ret3
        exact ⟨by unfold splitA splitB; rw [S.out]; rfl, hb1⟩
end Go.Proofs.YtgnbdmomndnjnaaDoor.Names
