/- Layer 8: the walk of the statement FeellexQuotes. -/
import Derived.Test.YtblpckeimdmpaaaDoorFxU
import Derived.Test.YtblpckeimdmpaaaDoorFxF
set_option linter.unusedVariables false
set_option linter.unusedSimpArgs false
namespace Go.Proofs.YtblpckeimdmpaaaDoor.Fx
open Go Go.Proofs.YtblpckeimdmpaaaDoor Go.Proofs.YtblpckeimdmpaaaDoor.Utf Go.Proofs.YtblpckeimdmpaaaDoor.Names Go.Proofs.YtblpckeimdmpaaaDoor.Ent Go.Proofs.YtblpckeimdmpaaaDoor.Fl Go.RowKit
set_option maxRecDepth 100000

theorem str_of (s : ByteArray) : ∃ l, s = text l ∧ l.length = s.size := ⟨s.data.toList, by simp [text], (Lib.size_eq s).symm⟩

set_option maxHeartbeats 4000000 in
theorem FeellexQuotes_walk (s : ByteArray) (hs : s.size ≤ 140737488351232) (w : World) (hF : Fit w) :
    Calls Tryd.prog 3 #[.string s] w fun e w' => e = .returned (.bool true) ∧ Below w.heap.size w w' := by
  obtain ⟨l, rfl, hl⟩ := str_of s
  rw [← hl] at hs
  have HF := hid hF
  clear hF
  by_cases hb : 1000 < l.length
  · have hbb : (1000 : Int) < ((text l).size : Int) := by omega
    clear hl
    go_enter Tryd.func3, Tryd.ntmps3
    go_wp2_with fail
    refine (alive_any _ HF.out).mono ?_
    rintro e w1 ⟨rfl, hb1⟩
    go_wp2
    go_ret
    exact ⟨rfl, hb1⟩
  have hbb : ¬ (1000 : Int) < ((text l).size : Int) := by omega
  have hq := fun w => Quote_any l (by omega) w
  unfold quoteV at hq
  by_cases hc : check l = l.length
  · have hq2 : ∀ w, Calls Tryd.prog 7 #[.string (text l)] w fun e w' => e = .returned (.tuple #[.string (text (quote l)), .int .i64 0]) ∧ Below w.heap.size w w' := by
      intro w
      have := hq w
      rw [if_pos hc] at this
      exact this
    have hck := check_quote hc
    have hql := qs_len l
    have hqn := quote_len l
    have hlx := lexp_quote l
    have hlo := lexp_open l
    have htk : (quote l).take ((qs l).length + 1) = 34 :: qs l := by
      show (34 :: (qs l ++ [34])).take _ = _
      rw [List.take_succ_cons, List.take_left]
    have hx : (text (quote l)).extract 0 ((qs l).length + 1) = text (34 :: qs l) := by rw [text_cut, Nat.sub_zero, List.drop_zero, htk]
    have sq : (text (quote l)).size = (qs l).length + 2 := by rw [text_size, hqn]
    have hL1 := fun w (hF : Fit w) => Lex_any (quote l) (by omega) w hF.1 hF.2
    have hL2 := fun w (hF : Fit w) => Lex_any (34 :: qs l) (by simp; omega) w hF.1 hF.2
    have hol : (34 :: qs l).length = (qs l).length + 1 := rfl
    rw [hol] at hlo
    have ss : ((text l).toList == (text l).toList) = true := by rw [beq_iff_eq]
    have ss2 : ((text l).toList != (text l).toList) = false := by rw [bne, ss]; rfl
    have HQ := hid hq2
    have HCK := hid hck
    have HLX := hid hlx
    have HLO := hid hlo
    have H1 := hid hL1
    have H2 := hid hL2
    clear hq hq2 hck hlx hlo hL1 hL2 hc htk hqn hol hl
    generalize quote l = q at *
    generalize 34 :: qs l = o at *
    generalize (qs l).length = n at *
    have hn1 : ((n : Int) + 2 - 1) = (n : Int) + 1 := by omega
    go_enter Tryd.func3, Tryd.ntmps3
    go_wp2_with fail
    refine (HQ.out _).mono ?_
    rintro e w1 ⟨rfl, hb1⟩
    have HF1 := hid (HF.out.below hb1 (Nat.le_refl _))
    go_wp2_with fail
    refine (H1.out _ HF1.out).mono ?_
    rintro e w2 ⟨hg2, hb2⟩
    obtain ⟨v, rfl, ho⟩ := hg2.ok HCK.out.1 HLX.out
    have HF2 := hid (HF1.out.below hb2 (Nat.le_refl _))
    have HB2 := hid (bt hb1 hb2)
    have HO := hid (ho.lexs (by simp))
    have hlen0 : ∀ W, (Builtin.len_ #[26] 3 #[v]).run Tryd.prog W = .ok (.int .i64 2) W := fun W => HO.out.len (P := Tryd.prog) 26 3 30 undLs W
    obtain ⟨p0, o0, i0, k00, k01, k02⟩ := HO.out.pick 0 0 rfl _ rfl
    dsimp only [lz] at k00 k01 k02
    clear hg2 ho hb1 hb2
    go_wp2_with fail
    refine (H2.out _ HF2.out).mono ?_
    rintro e w3 ⟨hg3, hb3⟩
    have he3 := hg3.bad HCK.out.2 HLO.out
    subst he3
    have HF3 := hid (HF2.out.below hb3 (Nat.le_refl _))
    have HB3 := hid (bt HB2.out hb3)
    clear hg3 hb3
    go_wp2_with fail
    refine (alive_any _ HF3.out).mono ?_
    rintro e w4 ⟨rfl, hb4⟩
    go_wp2
    go_ret
    exact ⟨rfl, bt HB3.out hb4⟩
  · have hq2 : ∀ w, Calls Tryd.prog 7 #[.string (text l)] w fun e w' => e = .returned (.tuple #[.string (text []), .int .i64 4]) ∧ Below w.heap.size w w' := by
      intro w
      have := hq w
      rw [if_neg hc] at this
      exact this
    have HQ := hid hq2
    have se : ((text []).toList == ([] : List UInt8)) = true := by rw [Names.text_list]; rfl
    clear hq hq2 hc hl
    go_enter Tryd.func3, Tryd.ntmps3
    go_wp2_with fail
    refine (HQ.out _).mono ?_
    rintro e w1 ⟨rfl, hb1⟩
    have HF1 := hid (HF.out.below hb1 (Nat.le_refl _))
    go_wp2_with fail
    refine (alive_any _ HF1.out).mono ?_
    rintro e w2 ⟨rfl, hb2⟩
    go_wp2
    go_ret
    exact ⟨rfl, bt hb1 hb2⟩
end Go.Proofs.YtblpckeimdmpaaaDoor.Fx
