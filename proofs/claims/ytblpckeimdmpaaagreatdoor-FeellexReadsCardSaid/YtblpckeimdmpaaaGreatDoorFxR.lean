/- Layer 8: the walk of the statement FeellexReads. -/
import Derived.Test.YtblpckeimdmpaaaGreatDoorFxF
import Derived.Test.YtblpckeimdmpaaaGreatDoorFlH
set_option linter.unusedVariables false
set_option linter.unusedSimpArgs false
namespace Go.Proofs.YtblpckeimdmpaaaGreatDoor.Fx
open Go Go.Proofs.YtblpckeimdmpaaaGreatDoor Go.Proofs.YtblpckeimdmpaaaGreatDoor.Utf Go.Proofs.YtblpckeimdmpaaaGreatDoor.Names Go.Proofs.YtblpckeimdmpaaaGreatDoor.Ent Go.Proofs.YtblpckeimdmpaaaGreatDoor.Fl Go.RowKit
set_option maxRecDepth 100000

theorem text_own (s : ByteArray) : ∃ l, s = text l ∧ l.length = s.size := ⟨s.data.toList, by simp [text], (Lib.size_eq s).symm⟩
/-- What one of the two hands on, the other does. -/
theorem GotL.form {B : Nat} {l : List UInt8} {e : Ending} {w : World} (hl : l.length ≤ 1500) (h : GotL B l e w) :
    ∃ (ts : List Lz) (v : Value) (n E : Nat), E ≤ 11 ∧ ts.length ≤ 281474976710656 ∧ e = .returned (.tuple #[v, .int .i64 n, .int .i64 E]) ∧ OwnL B w v ts ∧
      (∀ B' e' w', GotL B' l e' w' → ∃ v', e' = .returned (.tuple #[v', .int .i64 n, .int .i64 E]) ∧ OwnL B' w' v' ts) := by
  by_cases hc : check l = l.length
  · cases hx : lexp 0 l with
    | ok ts =>
      obtain ⟨v, h1, h2⟩ := h.ok hc hx
      have h3 := ((lexp_facts _ l rfl 0).1 ts hx).1
      exact ⟨ts.map lz, v, l.length, 0, by omega, by rw [List.length_map]; omega, h1, h2, fun B' e' w' h' => h'.ok hc hx⟩
    | error x =>
      have h1 := h.bad hc hx
      have h2 := ((lexp_facts _ l rfl 0).2 x hx).1
      exact ⟨[], _, x.1, x.2, by omega, by simp, h1, OwnL.nil _ _, fun B' e' w' h' => ⟨_, h'.bad hc hx, OwnL.nil _ _⟩⟩
  · exact ⟨[], _, check l, 4, by omega, by simp, h.utf hc, OwnL.nil _ _, fun B' e' w' h' => ⟨_, h'.utf hc, OwnL.nil _ _⟩⟩

set_option maxHeartbeats 8000000 in
theorem FeellexReads_walk (s : ByteArray) (hs : s.size ≤ 140737488351232) (w : World) (hF : Fit w) :
    Calls Tryz.prog 3 #[.string s] w fun e w' => e = .returned (.bool true) ∧ Below w.heap.size w w' := by
  obtain ⟨l, rfl, hl⟩ := text_own s
  rw [← hl] at hs
  have HF := hid hF
  clear hF
  by_cases hb : 1500 < l.length
  · have hbb : (1500 : Int) < ((text l).size : Int) := by omega
    clear hl
    go_enter Tryz.func3, Tryz.ntmps3
    go_wp2_with fail
    refine (alive_any _ HF.out).mono ?_
    rintro e w1 ⟨rfl, hb1⟩
    go_wp2
    go_ret
    exact ⟨rfl, hb1⟩
  have hbb : ¬ (1500 : Int) < ((text l).size : Int) := by omega
  have HL1 := hid (fun w (hF : Fit w) => Lex_any l (by omega) w hF.1 hF.2)
  have HL2 := hid (fun w => RLex_any l (by omega) w)
  have HFm := hid (fun B e w (h : GotL B l e w) => GotL.form (by omega) h)
  clear hl hs hb
  go_enter Tryz.func3, Tryz.ntmps3
  go_wp2_with fail
  refine (HL1.out _ HF.out).mono ?_
  rintro e w1 ⟨hg1, hb1⟩
  have HF1 := hid (HF.out.below hb1 (Nat.le_refl _))
  have HB1 := hid hb1
  obtain ⟨ts, v1, n, E, hE, hts, rfl, ho1, hnx⟩ := HFm.out _ _ _ hg1
  have HO1 := hid ho1
  have HNX := hid hnx
  clear hg1 ho1 hnx hb1
  go_wp2_with fail
  refine (HL2.out _).mono ?_
  rintro e w2 ⟨hg2, hb2⟩
  obtain ⟨v2, rfl, ho2⟩ := HNX.out _ _ _ hg2
  have HF2 := hid (HF1.out.below hb2 (Nat.le_refl _))
  have HB2 := hid (bt HB1.out hb2)
  have HP1 := hid (HO1.out.later hb2)
  have HO2 := hid ho2
  clear hg2 ho2 hb2
  go_wp2_with fail
  refine (alive_any _ HF2.out).mono ?_
  rintro e w3 ⟨rfl, hb3⟩
  have HB3 := hid (bt HB2.out hb3)
  have HQ1 := hid ((HP1.out.later hb3).lexs hts)
  have HQ2 := hid ((HO2.out.later hb3).lexs hts)
  clear hb3
  have HSM := hid (Same_any true ts ts v1 v2 w3 HQ1.out HQ2.out)
  rw [sameL_yes rfl] at HSM
  have hEw : wrap64 (E : Int) = (E : Int) := IntWalk.wrap64_in _ (by omega)
  go_wp2_with fail
  refine HSM.out.mono ?_
  rintro e w4 ⟨rfl, hb4⟩
  have HB4 := hid (bt HB3.out hb4)
  clear hb4
  go_wp2
  go_ret
  exact ⟨by simp [hEw], HB4.out⟩
end Go.Proofs.YtblpckeimdmpaaaGreatDoor.Fx
