/- Layer 2: contracts of the document's own answers: chars, Plain. -/
import Derived.Test.YthggoohchjifnaaDoorNamesA
import Derived.Test.YthggoohchjifnaaDoorUtfG
import Derived.Test.YthggoohchjifnaaDoorApp
set_option linter.unusedVariables false
set_option linter.unusedSimpArgs false
namespace Go.Proofs.YthggoohchjifnaaDoor.Names
open Go Go.Proofs.YthggoohchjifnaaDoor Go.Proofs.YthggoohchjifnaaDoor.Utf Go.RowKit
set_option maxRecDepth 100000

theorem underN : Tryd.prog.underlying 69 = some (.slice 3) := Tryd.underlying69
theorem sizeI (W : World) : (sizeOf 3).run Tryd.prog W = .ok 1 W := Tryd.sizeOf3 W
theorem infoI : (Tryd.prog.info? 3).map (fun i => (i.zero, i.size, i.bytes)) = some (some (.int .i64 0), 1, 8) := by kernel_rfl

def ints (cs : List Nat) : List Int := cs.map fun (c : Nat) => (c : Int)
theorem ints_len (cs : List Nat) : (ints cs).length = cs.length := by simp [ints]
theorem ints_snoc (cs : List Nat) (c : Nat) : ints (cs ++ [c]) = ints cs ++ [(c : Int)] := by simp [ints]

set_option maxHeartbeats 2000000 in
theorem RChars_any (l : List UInt8) (hl : l.length ≤ 1000000) (w : World) :
    Calls Tryd.prog 49 #[.string (text l)] w fun e w' => ∃ v, e = .returned (.tuple #[v, .bool (chars l).isSome]) ∧ (∀ cs, chars l = some cs → Nums w' v (ints cs)) ∧ Below w.heap.size w w' := by
  obtain ⟨i1, hi', hz0', hz1', hz2'⟩ := info_parts infoI
  obtain ⟨v, w1, hcv, hv, hb1⟩ := conv_text (P := Tryd.prog) (text l) (by rw [text_size]; omega) 9 44 5 under9 underB under8 w
  rw [text_data] at hv
  have HV := hid hv
  have HB1 := hid hb1
  clear hv hb1
  go_enter Tryd.func49, Tryd.ntmps49
  go_wp2_with fail
  clear hcv
  go_loopw [4, 5] (fun o b wr => ∃ (pos : Nat) (cs : List Nat), Got l pos cs ∧ Bytes w1 b (l.drop pos) ∧ wr.ownsRow w1.heap.size 3 1 o cs.length (numsOf (ints cs)) ∧ Below w1.heap.size w1 wr) (fun _ b _ => lenOf b)
  case atStart => exact ⟨0, [], Got.start l, HV.out, World.ownsRow_nil _ _ _ _, b0 _⟩
  case round =>
    obtain ⟨pos, cs, hg, hb, ho, hbr⟩ := hrel
    have hlen := fun W => hb.len (P := Tryd.prog) 44 3 5 underB W
    by_cases hp : pos < l.length
    · have hR := RRune_any u5 _ _ (hb.below hbr (Nat.le_refl _))
      unfold pairV at hR
      have hk := rune_le (l.drop pos)
      have hdl : (l.drop pos).length = l.length - pos := by simp
      by_cases z : (rune (l.drop pos)).2 = 0
      · have hr0 := rune_none z
        rw [hr0] at hR
        have HR := hid hR
        have HG := hid (hg.stop hp z)
        have HB := hid hbr
        rw [hdl] at hlen
        clear hg z hr0 hR hbr hb ho hk
        go_wp2_with (go_at_call 69; refine HR.out.mono ?_; rintro e w2 ⟨rfl, hb2⟩)
        go_ret2
        refine ⟨_, by rw [HG.out]; rfl, fun cs h => (by rw [HG.out] at h; cases h), bt HB1.out (bt HB.out hb2)⟩
      · have hg2 := hg.next z
        obtain ⟨v', _, a2, _, hv'⟩ := hb.sub (rune (l.drop pos)).2 (l.drop pos).length hk.1 (Nat.le_refl _) 44 5 underB size8
        have a3 := a2 rfl
        rw [List.take_of_length_le (by rw [List.length_drop]; exact Nat.le_refl _), List.drop_drop] at hv'
        have hz : (((rune (l.drop pos)).2 : Int) == 0) = false := by rw [beq_eq_false_iff_ne]; omega
        have HR := hid hR
        have HG := hid hg2
        have HB := hid hbr
        have HV2 := hid hv'
        have HO := hid ho
        have hcs := hg.2.1
        have hm1 := hb.lenOf
        have hk1 : 1 ≤ (rune (l.drop pos)).2 := by omega
        have hm2 := hv'.lenOf
        have HM1 := hid hm1
        have HM2 := hid hm2
        rw [hdl] at hlen
        clear hg2 hg z hR hbr hb ho a2 hv' hm1 hm2
        obtain ⟨c, k, hck⟩ : ∃ c k, rune (l.drop pos) = (c, k) := ⟨_, _, rfl⟩
        rw [hck] at hk hk1 hz HR HG HM2 HV2
        rw [hck] at a3
        dsimp only at hk hk1 hz HR HG HM2 HV2 a3
        clear hck
        go_wp2_with fail
        refine HR.out.mono ?_
        rintro e w2 ⟨rfl, hb2⟩
        have HO2 := hid (owns_later HO.out hb2)
        have HBL := hid (bt HB.out hb2)
        go_wp2_with (at_builtin; refine wpList_append_row rfl _ _ 69 rfl w1.heap.size 3 i1 (.int .i64 0) 1 8 underN hi' hz0' hz1' hz2' rfl (by decide) _ _ _ rfl (HO2.out.alloc _) _ 1 [.int .i64 c] rfl (Row.ofBuild w2 #[.int .i64 c] _ 1 rfl (by omega)) (numsOf_one [c]) ?d1 ?d2 ?d3 ?_)
        case d1 => omega
        case d2 => unfold maxLen; omega
        case d3 => have := HBL.out.size; simp; omega
        intro v3 w3 hown3 hg3
        have hb3 := grown_below (ba HBL.out (.cells #[.int .i64 c] 3)) (HO2.out.alloc _) (Nat.le_refl _) hg3
        have HO3 := hid hown3
        have HB3 := hid hb3
        clear hown3 hg3 hb3
        go_wp2_with fail
        go_roundw
        case rel =>
          refine ⟨_, _, HG.out, HV2.out, ?_, HB3.out⟩
          rw [List.length_append, ints_snoc, numsOf_append]; exact HO3.out
        case measure => rw [HM1.out, HM2.out]; simp; omega
    · have HG := hid (hg.done hp)
      have HB := hid hbr
      have HO := hid (Nums.ofOwns (l := ints cs) (by rw [ints_len]; exact ho) (by have := hg.2.1; have := hg.1; rw [ints_len]; omega))
      have hdl : (l.drop pos).length = 0 := by simp; omega
      rw [hdl] at hlen
      clear hg hbr ho hb hdl
      go_wp2
      go_ret2
      refine ⟨_, by rw [HG.out]; rfl, fun cs' h => ?_, bt HB1.out HB.out⟩
      rw [HG.out] at h
      cases h
      exact HO.out
/-! words -/
def shpC (p q : Int → Bool) : Option (List Nat) → Bool
  | some (c :: cs) => p c && cs.all (fun c => q c)
  | _ => false
theorem shp_eq (p q : Int → Bool) (l : List UInt8) : shp p q l = shpC p q (chars l) := by unfold shp shpC; rfl
theorem all_take (q : Int → Bool) (cs : List Nat) (k : Nat) (hk : k < cs.length) : (cs.take (k + 1)).all (fun c => q c) = ((cs.take k).all (fun c => q c) && q (cs[k] : Nat)) := by
  rw [List.take_succ_eq_append_getElem hk, List.all_append]; simp
theorem all_stop (q : Int → Bool) (cs : List Nat) (k : Nat) (hk : k < cs.length) (h : q (cs[k] : Nat) = false) : cs.all (fun c => q c) = false := by
  rw [List.all_eq_false]; exact ⟨cs[k], List.getElem_mem hk, by simp [h]⟩

end Go.Proofs.YthggoohchjifnaaDoor.Names
