/- Layer 2: the walks of the statements NamesSplits and NamesWords. -/
import Derived.Test.YtgnbdmomndnjnaaDoorNamesY
set_option linter.unusedVariables false
set_option linter.unusedSimpArgs false
namespace Go.Proofs.YtgnbdmomndnjnaaDoor.Names
open Go Go.Proofs.YtgnbdmomndnjnaaDoor Go.Proofs.YtgnbdmomndnjnaaDoor.Utf Go.RowKit
set_option maxRecDepth 100000

theorem text_of (s : ByteArray) : ∃ l, s = text l ∧ l.length = s.size := ⟨s.data.toList, str_text s, (Lib.size_eq s).symm⟩

set_option maxHeartbeats 4000000 in
theorem NamesSplits_walk (s : ByteArray) (hs : s.size ≤ 140737488351232) (w : World) :
    Calls Tryd.prog 3 #[.string s] w fun e w' => e = .returned (.bool true) ∧ Below w.heap.size w w' := by
  obtain ⟨l, rfl, hl⟩ := text_of s
  rw [← hl] at hs
  have AL := hid alive_any
  by_cases hb : 2000 < l.length
  · have hbb : (2000 : Int) < ((text l).size : Int) := by omega
    clear hl
    go_enter Tryd.func3, Tryd.ntmps3
    go_wp2_with (go_at_call 9; refine (AL.out _).mono ?_; rintro e w' ⟨rfl, hb⟩)
    go_ret
    exact ⟨rfl, hb⟩
  · have hbb : ¬ (2000 : Int) < ((text l).size : Int) := by omega
    have c1 := fun w => Split_any l (by omega) w
    have c2 := fun w => RSplit_any l (by omega) w
    have C3 := hid (fun w => Plain_any l (by omega) w)
    have C4 := hid (fun w => RPlain_any l (by omega) w)
    have he : splitE l = if (splitO l).isSome then 0 else 6 := rfl
    cases ho : (splitO l).isSome
    · rw [ho] at he c2
      rw [he] at c1
      have C1 := hid c1
      have C2 := hid c2
      clear c1 c2 he ho hl hb hs
      go_enter Tryd.func3, Tryd.ntmps3
      go_wp2_with (first
        | (go_at_call 10; refine (C1.out _).mono ?_; rintro e w1 ⟨rfl, hb1⟩)
        | (go_at_call 11; refine (C2.out _).mono ?_; rintro e w2 ⟨rfl, hb2⟩)
        | (go_at_call 9; refine (AL.out _).mono ?_; rintro e w3 ⟨rfl, hb3⟩)
        | (go_at_call 12; refine (C3.out _).mono ?_; rintro e w4 ⟨rfl, hb4⟩)
        | (go_at_call 13; refine (C4.out _).mono ?_; rintro e w5 ⟨rfl, hb5⟩))
      go_ret
      exact ⟨rfl, bt (bt (bt (bt hb1 hb2) hb3) hb4) hb5⟩
    · rw [ho] at he c2
      rw [he] at c1
      have C1 := hid c1
      have C2 := hid c2
      clear c1 c2 he ho hl hb hs
      go_enter Tryd.func3, Tryd.ntmps3
      go_wp2_with (first
        | (go_at_call 10; refine (C1.out _).mono ?_; rintro e w1 ⟨rfl, hb1⟩)
        | (go_at_call 11; refine (C2.out _).mono ?_; rintro e w2 ⟨rfl, hb2⟩)
        | (go_at_call 9; refine (AL.out _).mono ?_; rintro e w3 ⟨rfl, hb3⟩)
        | (go_at_call 12; refine (C3.out _).mono ?_; rintro e w4 ⟨rfl, hb4⟩)
        | (go_at_call 13; refine (C4.out _).mono ?_; rintro e w5 ⟨rfl, hb5⟩))
      go_ret
      exact ⟨rfl, bt (bt (bt (bt hb1 hb2) hb3) hb4) hb5⟩

set_option maxHeartbeats 4000000 in
theorem NamesWords_walk (s : ByteArray) (hs : s.size ≤ 140737488351232) (w : World) :
    Calls Tryd.prog 4 #[.string s] w fun e w' => e = .returned (.bool true) ∧ Below w.heap.size w w' := by
  obtain ⟨l, rfl, hl⟩ := text_of s
  rw [← hl] at hs
  have AL := hid alive_any
  by_cases hb : 2000 < l.length
  · have hbb : (2000 : Int) < ((text l).size : Int) := by omega
    clear hl
    go_enter Tryd.func4, Tryd.ntmps4
    go_wp2_with (go_at_call 9; refine (AL.out _).mono ?_; rintro e w' ⟨rfl, hb⟩)
    go_ret
    exact ⟨rfl, hb⟩
  · have hbb : ¬ (2000 : Int) < ((text l).size : Int) := by omega
    have C1 := hid (fun w => Words_any l (by omega) w)
    have C2 := hid (fun w => RWords_any l (by omega) w)
    have C3 := hid (fun w => Right_any l (by omega) w)
    have C4 := hid (fun w => Keyword_any l (by omega) w)
    have C5 := hid (fun w => RKeyword_any l w)
    have C6 := hid (fun w => Word_any l (by omega) w)
    have C7 := hid (fun w => RWord_any l (by omega) w)
    unfold rightB at C3
    clear hl hb hs
    go_enter Tryd.func4, Tryd.ntmps4
    go_wp2_with fail
    refine (C1.out _).mono ?_
    rintro e w1 ⟨v1, rfl, hv1, hb1⟩
    go_wp2_with fail
    refine (C2.out _).mono ?_
    rintro e w2 ⟨v2, rfl, hv2, hb2⟩
    go_wp2_with fail
    refine (AL.out _).mono ?_
    rintro e w3 ⟨rfl, hb3⟩
    have hsm := same_any v1 v2 _ _ w3 (hv1.below (bt hb2 hb3) (Nat.le_refl _)) (hv2.below hb3 (Nat.le_refl _))
    rw [decide_eq_true rfl] at hsm
    have SM := hid hsm
    clear hsm hv1 hv2
    go_wp2_with (first
      | (go_at_call 16; refine SM.out.mono ?_; rintro e w4 ⟨rfl, hb4⟩)
      | (go_at_call 17; refine (C3.out _).mono ?_; rintro e w5 ⟨rfl, hb5⟩)
      | (go_at_call 18; refine (C4.out _).mono ?_; rintro e w6 ⟨rfl, hb6⟩)
      | (go_at_call 19; refine (C5.out _).mono ?_; rintro e w7 ⟨rfl, hb7⟩)
      | (go_at_call 20; refine (C6.out _).mono ?_; rintro e w8 ⟨rfl, hb8⟩)
      | (go_at_call 21; refine (C7.out _).mono ?_; rintro e w9 ⟨rfl, hb9⟩))
    go_ret
    exact ⟨rfl, bt (bt (bt (bt (bt (bt (bt (bt hb1 hb2) hb3) hb4) hb5) hb6) hb7) hb8) hb9⟩
end Go.Proofs.YtgnbdmomndnjnaaDoor.Names
