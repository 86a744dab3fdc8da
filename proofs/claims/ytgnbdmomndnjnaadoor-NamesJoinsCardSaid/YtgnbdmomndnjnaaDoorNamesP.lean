/- Layer 2: the walk of the statement NamesPrefix. -/
import Derived.Test.YtgnbdmomndnjnaaDoorNamesZ
import Derived.Test.YtgnbdmomndnjnaaDoorNamesMath3
set_option linter.unusedVariables false
set_option linter.unusedSimpArgs false
namespace Go.Proofs.YtgnbdmomndnjnaaDoor.Names
open Go Go.Proofs.YtgnbdmomndnjnaaDoor Go.Proofs.YtgnbdmomndnjnaaDoor.Utf Go.RowKit
set_option maxRecDepth 100000

theorem byte_text (c : UInt8) : (⟨#[c]⟩ : ByteArray) = text [c] := rfl
theorem add_byte (a : List UInt8) (c : UInt8) : text a ++ (⟨#[c]⟩ : ByteArray) = text (a ++ [c]) := by rw [byte_text, text_append]

set_option maxHeartbeats 4000000 in
theorem NamesPrefix_walk (s t : ByteArray) (hs : s.size ≤ 140737488351232) (ht : t.size ≤ 140737488351232) (w : World) :
    Calls Tryd.prog 7 #[.string s, .string t] w fun e w' => e = .returned (.bool true) ∧ Below w.heap.size w w' := by
  obtain ⟨l, rfl, hl⟩ := text_of s
  obtain ⟨m, rfl, hm⟩ := text_of t
  rw [← hl] at hs
  rw [← hm] at ht
  have AL := hid alive_any
  by_cases hb : 1000 < l.length
  · have hbb : (1000 : Int) < ((text l).size : Int) := by omega
    clear hl hm
    go_enter Tryd.func7, Tryd.ntmps7
    go_wp2_with (go_at_call 9; refine (AL.out _).mono ?_; rintro e w' ⟨rfl, hb⟩)
    go_ret
    exact ⟨rfl, hb⟩
  · have hbb : ¬ (1000 : Int) < ((text l).size : Int) := by omega
    by_cases hc : 1000 < m.length
    · have hcc : (1000 : Int) < ((text m).size : Int) := by omega
      clear hl hm
      go_enter Tryd.func7, Tryd.ntmps7
      go_wp2_with (go_at_call 9; refine (AL.out _).mono ?_; rintro e w' ⟨rfl, hb⟩)
      go_ret
      exact ⟨rfl, hb⟩
    · have hcc : ¬ (1000 : Int) < ((text m).size : Int) := by omega
      have e1 : text l ++ (⟨#[58]⟩ : ByteArray) = text (l ++ [58]) := add_byte l 58
      have e2 : text (l ++ [58]) ++ text m = text (l ++ 58 :: m) := by rw [text_append]; simp
      have z1 : (text l).size + (⟨#[58]⟩ : ByteArray).size ≤ 9223372036854775807 := by rw [text_size]; simp [ByteArray.size]; omega
      have z2 : (text (l ++ [58])).size + (text m).size ≤ 9223372036854775807 := by rw [text_size, text_size]; simp; omega
      have hsp := split_between l m
      have c1 := fun w => Split_any (l ++ 58 :: m) (by simp; omega) w
      have p1 := fun w => Plain_any l (by omega) w
      have p2 := fun w => Plain_any m (by omega) w
      clear hl hm
      cases h1 : plainB l
      · have hso : splitO (l ++ 58 :: m) = none := by rw [hsp, h1]; rfl
        have ha : splitA (l ++ 58 :: m) = [] := by unfold splitA; rw [hso]
        have hb2 : splitB (l ++ 58 :: m) = [] := by unfold splitB; rw [hso]
        have he : splitE (l ++ 58 :: m) = 6 := by unfold splitE; rw [hso]; rfl
        rw [ha, hb2, he] at c1
        rw [h1] at p1
        have C1 := hid c1
        have P1 := hid p1
        have tn : (text []).toList = [] := text_list _
        clear c1 p1 p2 hsp hso ha hb2 he h1 hs ht
        go_enter Tryd.func7, Tryd.ntmps7
        go_wp2_with (first
          | (go_at_call 10; refine (C1.out _).mono ?_; rintro e w1 ⟨rfl, hb1⟩)
          | (go_at_call 12; refine (P1.out _).mono ?_; rintro e w2 ⟨rfl, hb2⟩)
          | (go_at_call 9; refine (AL.out _).mono ?_; rintro e w3 ⟨rfl, hb3⟩))
        go_ret
        exact ⟨rfl, bt (bt hb1 hb2) hb3⟩
      · rw [h1] at p1
        have P1 := hid p1
        cases h2 : plainB m
        · have hso : splitO (l ++ 58 :: m) = none := by rw [hsp, h1, h2]; rfl
          have ha : splitA (l ++ 58 :: m) = [] := by unfold splitA; rw [hso]
          have hb2 : splitB (l ++ 58 :: m) = [] := by unfold splitB; rw [hso]
          have he : splitE (l ++ 58 :: m) = 6 := by unfold splitE; rw [hso]; rfl
          rw [ha, hb2, he] at c1
          rw [h2] at p2
          have C1 := hid c1
          have P2 := hid p2
          have tn : (text []).toList = [] := text_list _
          clear c1 p1 p2 hsp hso ha hb2 he h1 h2 hs ht
          go_enter Tryd.func7, Tryd.ntmps7
          go_wp2_with fail
          refine (C1.out _).mono ?_
          rintro e w1 ⟨rfl, hb1⟩
          go_wp2_with fail
          refine (P1.out _).mono ?_
          rintro e w2 ⟨rfl, hb2⟩
          go_wp2_with fail
          refine (P2.out _).mono ?_
          rintro e w3 ⟨rfl, hb3⟩
          go_wp2_with (go_at_call 9; refine (AL.out _).mono ?_; rintro e w4 ⟨rfl, hb4⟩)
          go_ret
          exact ⟨rfl, bt (bt (bt hb1 hb2) hb3) hb4⟩
        · have hso : splitO (l ++ 58 :: m) = some (l, m) := by rw [hsp, h1, h2]; rfl
          have ha : splitA (l ++ 58 :: m) = l := by unfold splitA; rw [hso]
          have hb2 : splitB (l ++ 58 :: m) = m := by unfold splitB; rw [hso]
          have he : splitE (l ++ 58 :: m) = 0 := by unfold splitE; rw [hso]; rfl
          rw [ha, hb2, he] at c1
          rw [h2] at p2
          have hsp2 := split_plain h1
          have ha2 : splitA l = [] := by unfold splitA; rw [hsp2]
          have hb3 : splitB l = l := by unfold splitB; rw [hsp2]
          have he2 : splitE l = 0 := by unfold splitE; rw [hsp2]; rfl
          have c2 := fun w => Split_any l (by omega) w
          rw [ha2, hb3, he2] at c2
          have hsp3 := split_two l m
          have he3 : splitE ((l ++ 58 :: m) ++ 58 :: l) = 6 := by unfold splitE; rw [hsp3]; rfl
          have c3 := fun w => Split_any ((l ++ 58 :: m) ++ 58 :: l) (by simp; omega) w
          rw [he3] at c3
          have e3 : text (l ++ 58 :: m) ++ (⟨#[58]⟩ : ByteArray) = text ((l ++ 58 :: m) ++ [58]) := add_byte _ 58
          have e4 : text ((l ++ 58 :: m) ++ [58]) ++ text l = text ((l ++ 58 :: m) ++ 58 :: l) := by rw [text_append]; simp
          have z3 : (text (l ++ 58 :: m)).size + (⟨#[58]⟩ : ByteArray).size ≤ 9223372036854775807 := by rw [text_size]; simp [ByteArray.size]; omega
          have z4 : (text ((l ++ 58 :: m) ++ [58])).size + (text l).size ≤ 9223372036854775807 := by rw [text_size, text_size]; simp; omega
          have C1 := hid c1
          have C2 := hid c2
          have C3 := hid c3
          have P2 := hid p2
          have tn : (text []).toList = [] := text_list _
          clear c1 c2 c3 p1 p2 hsp hso ha hb2 he h1 h2 hs ht ha2 hb3 he2 hsp2 hsp3 he3
          generalize l ++ 58 :: m = x at *
          generalize splitA (x ++ 58 :: l) = sa at *
          generalize splitB (x ++ 58 :: l) = sb at *
          go_enter Tryd.func7, Tryd.ntmps7
          go_wp2_with fail
          refine (C1.out _).mono ?_
          rintro e w1 ⟨rfl, hb1⟩
          go_wp2_with fail
          refine (P1.out _).mono ?_
          rintro e w2 ⟨rfl, hb2⟩
          go_wp2_with fail
          refine (P2.out _).mono ?_
          rintro e w3 ⟨rfl, hb3⟩
          go_wp2_with fail
          refine (C2.out _).mono ?_
          rintro e w4 ⟨rfl, hb4⟩
          go_wp2_with fail
          refine (C3.out _).mono ?_
          rintro e w5 ⟨rfl, hb5⟩
          go_wp2_with (go_at_call 9; refine (AL.out _).mono ?_; rintro e w6 ⟨rfl, hb6⟩)
          go_ret
          exact ⟨rfl, bt (bt (bt (bt (bt hb1 hb2) hb3) hb4) hb5) hb6⟩
end Go.Proofs.YtgnbdmomndnjnaaDoor.Names
