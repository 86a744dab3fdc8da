/- Layer 3: contract of the document's own answer: Tell. -/
import Derived.Test.YtabplemabcahgaaDoorEntD
import Derived.Test.YtabplemabcahgaaDoorConv
import Derived.Test.YtabplemabcahgaaDoorApp
set_option linter.unusedVariables false
set_option linter.unusedSimpArgs false
namespace Go.Proofs.YtabplemabcahgaaDoor.Ent
open Go Go.Proofs.YtabplemabcahgaaDoor Go.Proofs.YtabplemabcahgaaDoor.Utf Go.RowKit
set_option maxRecDepth 100000

theorem info8' : (Tryd.prog.info? 5).map (fun i => (i.zero, i.size, i.bytes)) = some (some (.int .u8 0), 1, 1) := by kernel_rfl

/-- What is told, as values. -/
def tellV (r : List UInt8 × Nat × Nat) : Value := .tuple #[.string (text r.1), .int .i64 r.2.1, .int .i64 r.2.2]

theorem rune_at (c : Nat) (h : c < 128) (hf : fine (c : Int) = true) (r : List UInt8) : rune (UInt8.ofNat c :: r) = (c, 1) := by
  have := rune_enc c hf r
  rw [enc_low h] at this
  exact this
theorem rune_crlf {m : List UInt8} (h : pre [13, 10] m = true) : rune m = (13, 1) := by
  obtain ⟨r, rfl⟩ := (pre_iff _ _).1 h
  exact rune_at 13 (by omega) (by decide) (10 :: r)

theorem item_bad {v : Bool} {m : List UInt8} (h : (rune m).2 = 0) : item v m = (0, 0, 4) := by unfold item; rw [if_pos h]
theorem item_lt {v : Bool} {m : List UInt8} (h0 : ¬ (rune m).2 = 0) (h : (rune m).1 = 60) : item v m = (0, 0, 5) := by unfold item; rw [if_neg h0, if_pos h]
theorem item_amp_no {v : Bool} {m : List UInt8} (h0 : ¬ (rune m).2 = 0) (h1 : ¬ (rune m).1 = 60) (h : (rune m).1 = 38) (hr : (refer m).2 = 0) : item v m = (0, 0, 5) := by unfold item; rw [if_neg h0, if_neg h1, if_pos h, if_pos hr]
theorem item_amp {v : Bool} {m : List UInt8} (h0 : ¬ (rune m).2 = 0) (h1 : ¬ (rune m).1 = 60) (h : (rune m).1 = 38) (hr : ¬ (refer m).2 = 0) : item v m = ((refer m).1, (refer m).2, 0) := by unfold item; rw [if_neg h0, if_neg h1, if_pos h, if_neg hr]
theorem item_own {v : Bool} {m : List UInt8} (h0 : ¬ (rune m).2 = 0) (h1 : ¬ (rune m).1 = 60) (h : ¬ (rune m).1 = 38) (hp : pre [13, 10] m = false) : item v m = (itself v (rune m).1, (rune m).2, 0) := by
  unfold item; rw [if_neg h0, if_neg h1, if_neg h, hp]; rfl
theorem item_crlf {v : Bool} {m : List UInt8} (hp : pre [13, 10] m = true) : item v m = (itself v 13, 2, 0) := by
  have e := rune_crlf hp
  unfold item; rw [e, if_neg (by decide), if_neg (by decide), if_neg (by decide), hp]; rfl

set_option maxHeartbeats 4000000 in
theorem RTell_any (v : Bool) (l : List UInt8) (hl : l.length ≤ 1000000) (w : World) :
    Calls Tryd.prog 12 #[.string (text l), .bool v] w fun e w' => e = .returned (tellV (tell v l)) ∧ Below w.heap.size w w' := by
  obtain ⟨i0, hi, hz0, hz1, hz2⟩ := info_parts info8'
  have s1 : (text l).size = l.length := text_size l
  go_enter Tryd.func12, Tryd.ntmps12
  go_wp2_with fail
  go_loopw [7, 8] (fun o i wr => ∃ (pos : Nat) (out : List UInt8), i = .int .i64 pos ∧ Told v l pos out ∧ wr.ownsRow w.heap.size 5 1 o out.length (cellsOf out) ∧ Below w.heap.size w wr) (fun _ i _ => l.length - (intOf i).toNat)
  case atStart => exact ⟨0, [], rfl, Told.start _ _, World.ownsRow_nil _ _ _ _, Below.refl _ _⟩
  case round =>
    rename World => wr
    obtain ⟨pos, out, rfl, hT, hA, hbr⟩ := hrel
    have ho1 := hT.1
    have ho2 := hT.2.1
    have HA := hid hA
    have HB := hid hbr
    have HTO := hid hT
    clear hT hA hbr
    by_cases hp : pos < l.length
    · have hx : (text l).extract pos l.length = text (l.drop pos) := by have := text_extract l pos; rwa [s1] at this
      have hml : (l.drop pos).length = l.length - pos := List.length_drop
      have hstop := fun (h : (item v (l.drop pos)).2.2 ≠ 0) => HTO.out.stop hp h
      have hnext := fun (h : (item v (l.drop pos)).2.2 = 0) => HTO.out.next h
      generalize l.drop pos = m at *
      obtain ⟨vb, w1, hcv, hvb, hb1, _⟩ := conv_at (P := Tryd.prog) m (by omega) 9 34 5 under9 underB under8 wr
      have hrune := RRune_any vb m w1 (hvb w1 rfl)
      unfold pairV at hrune
      have HB1 := hid hb1
      have HST := hid hstop
      have HNE := hid hnext
      have hle := rune_le m
      clear hvb hb1 hstop hnext
      by_cases h0 : (rune m).2 = 0
      · have hit := item_bad (v := v) h0
        have hs := HST.out (by rw [hit]; simp)
        rw [hit] at hs
        have hz : (((rune m).2 : Int) == 0) = true := by rw [beq_iff_eq]; omega
        have HS := hid hs
        have HR := hid hrune
        clear h0 hit hs hrune
        go_wp2_with fail
        refine HR.out.mono ?_
        rintro e w2 ⟨rfl, hb2⟩
        have HB12 := hid (bt HB1.out hb2)
        clear hb2
        go_wp2
        go_ret3
        exact ⟨by rw [HS.out]; rfl, bt HB.out HB12.out⟩
      · have hz : (((rune m).2 : Int) == 0) = false := by rw [beq_eq_false_iff_ne]; omega
        by_cases h1 : (rune m).1 = 60
        · have hit := item_lt (v := v) h0 h1
          have hs := HST.out (by rw [hit]; simp)
          rw [hit] at hs
          have hz2' : (((rune m).1 : Int) == 60) = true := by rw [beq_iff_eq]; omega
          have HS := hid hs
          have HR := hid hrune
          clear h0 h1 hit hs hrune
          go_wp2_with fail
          refine HR.out.mono ?_
          rintro e w2 ⟨rfl, hb2⟩
          have HB12 := hid (bt HB1.out hb2)
          clear hb2
          go_wp2
          go_ret3
          exact ⟨by rw [HS.out]; rfl, bt HB.out HB12.out⟩
        · have hz60 : (((rune m).1 : Int) == 60) = false := by rw [beq_eq_false_iff_ne]; omega
          by_cases h2 : (rune m).1 = 38
          · have hz38 : (((rune m).1 : Int) == 38) = true := by rw [beq_iff_eq]; omega
            have href := fun w => reference_any m (by omega) w
            unfold pairV at href
            have hrl := refer_le m
            by_cases h3 : (refer m).2 = 0
            · have hit := item_amp_no (v := v) h0 h1 h2 h3
              have hs := HST.out (by rw [hit]; simp)
              rw [hit] at hs
              have hz3' : (((refer m).2 : Int) == 0) = true := by rw [beq_iff_eq]; omega
              have HS := hid hs
              have HR := hid hrune
              have HF := hid href
              clear h0 h1 h2 h3 hit hs hrune href hrl
              go_wp2_with fail
              refine HR.out.mono ?_
              rintro e w2 ⟨rfl, hb2⟩
              have HB12 := hid (bt HB1.out hb2)
              clear hb2
              go_wp2_with fail
              refine (HF.out _).mono ?_
              rintro e w3 ⟨rfl, hb3⟩
              go_wp2
              go_ret3
              exact ⟨by rw [HS.out]; rfl, bt HB.out (bt HB12.out hb3)⟩
            · have hit := item_amp (v := v) h0 h1 h2 h3
              have hn := HNE.out (by rw [hit])
              rw [hit] at hn
              have hz3' : (((refer m).2 : Int) == 0) = false := by rw [beq_eq_false_iff_ne]; omega
              have hf := (hrl.2 h3).1
              have hc13 : ((refer m).1 : Int) = ((refer m).1 : Int) := rfl
              have hk1 := (hrl.2 h3).2.1
              have hk2 := (hrl.2 h3).2.2
              have HNX := hid hn
              have HFI := hid hf
              have HR := hid hrune
              have HF := hid href
              clear h0 h1 h2 h3 hit hn hrune href hrl hf hc13
              generalize refer m = r at *
              go_wp2_with fail
              refine HR.out.mono ?_
              rintro e w2 ⟨rfl, hb2⟩
              have HB12 := hid (bt HB1.out hb2)
              clear hb2
              go_wp2_with fail
              refine (HF.out _).mono ?_
              rintro e w3' ⟨rfl, hb3'⟩
              have HB12' := hid (bt HB12.out hb3')
              clear HB12 hb3'
              have HB12 := HB12'
              clear HB12'
              go_wp2_with fail
              refine (RPut_any _ HFI.out _).mono ?_
              rintro e w3 ⟨v1, rfl, hv1, hb3⟩
              have hbb : Below wr.heap.size wr w3 := bt HB12.out hb3
              have HV1 := hid hv1
              have HA3 := hid (owns_later HA.out hbb)
              have hz3 : w.heap.size ≤ w3.heap.size := (bt HB.out hbb).size
              clear hv1
              go_wp2_with (at_builtin; refine wpList_append_row rfl _ _ 34 rfl w.heap.size 5 i0 (.int .u8 0) 1 1 underB hi hz0 hz1 hz2 rfl (by decide) _ _ _ rfl HA3.out _ _ _ rfl HV1.out (cellsOf_one _) ?c1 ?c2 ?c3 ?_)
              case c1 => have := enc_len (r.1 : Int); omega
              case c2 => have := enc_len (r.1 : Int); unfold maxLen; omega
              case c3 => exact hz3
              intro v2 w4 hown2 hg2
              have hb4 := grown_below (bt HB.out hbb) HA3.out (Nat.le_refl _) hg2
              have HA4 := hid hown2
              clear hown2 hg2
              go_wp2_with fail
              go_roundw
              case rel => exact ⟨pos + r.2, out ++ enc (r.1 : Int), by go_num, HNX.out, by rw [List.length_append, cellsOf_append]; exact HA4.out, hb4⟩
              case measure => simp [intOf]; omega
          · have hz38 : (((rune m).1 : Int) == 38) = false := by rw [beq_eq_false_iff_ne]; omega
            by_cases h4 : (rune m).1 = 13 ∨ (rune m).1 = 10 ∨ (rune m).1 = 9
            · have hbg := fun (b : Bool) (h : pre [13, 10] m = b) a ha w => begins_lit m [13, 10] (by omega) (by decide) b h a ha w
              have hm2 : pos + 2 ≤ pos + m.length ∨ m.length < 2 := by omega
              by_cases h5 : pre [13, 10] m = true
              · have hcr := rune_crlf h5
                have hit := item_crlf (v := v) h5
                have hn := HNE.out (by rw [hit])
                rw [hit] at hn
                have hpl := pre_len h5
                simp only [List.length_cons, List.length_nil] at hpl
                have hbg2 := hbg true h5
                rw [hcr] at hrune
                have HBG := hid hbg2
                have HR := hid hrune
                clear h0 h1 h2 h4 h5 hit hrune hbg hbg2 hz hz60 hz38 hcr hm2
                cases v
                · have HNX := hid hn
                  clear hn
                  go_wp2_with fail
                  refine HR.out.mono ?_
                  rintro e w2 ⟨rfl, hb2⟩
                  have HB12 := hid (bt HB1.out hb2)
                  clear hb2
                  go_wp2_with fail
                  refine (HBG.out _ (by decide) _).mono ?_
                  rintro e w2 ⟨rfl, rfl⟩
                  go_wp2_with fail
                  refine (RPut_any _ (by decide) _).mono ?_
                  rintro e w3 ⟨v1, rfl, hv1, hb3⟩
                  have hbb : Below wr.heap.size wr w3 := bt HB12.out hb3
                  have HV1 := hid hv1
                  have HA3 := hid (owns_later HA.out hbb)
                  have hz3 : w.heap.size ≤ w3.heap.size := (bt HB.out hbb).size
                  clear hv1
                  go_wp2_with (at_builtin; refine wpList_append_row rfl _ _ 34 rfl w.heap.size 5 i0 (.int .u8 0) 1 1 underB hi hz0 hz1 hz2 rfl (by decide) _ _ _ rfl HA3.out _ _ _ rfl HV1.out (cellsOf_one _) ?c1 ?c2 ?c3 ?_)
                  case c1 => have := enc_len ((10 : Int) : Int); omega
                  case c2 => have := enc_len ((10 : Int) : Int); unfold maxLen; omega
                  case c3 => exact hz3
                  intro v2 w4 hown2 hg2
                  have hb4 := grown_below (bt HB.out hbb) HA3.out (Nat.le_refl _) hg2
                  have HA4 := hid hown2
                  clear hown2 hg2
                  go_wp2_with fail
                  go_roundw
                  case rel => exact ⟨pos + 2, out ++ enc ((10 : Int) : Int), by go_num, HNX.out, by rw [List.length_append, cellsOf_append]; exact HA4.out, hb4⟩
                  case measure => simp [intOf]; omega
                · have HNX := hid hn
                  clear hn
                  go_wp2_with fail
                  refine HR.out.mono ?_
                  rintro e w2 ⟨rfl, hb2⟩
                  have HB12 := hid (bt HB1.out hb2)
                  clear hb2
                  go_wp2_with fail
                  refine (HBG.out _ (by decide) _).mono ?_
                  rintro e w2 ⟨rfl, rfl⟩
                  go_wp2_with fail
                  refine (RPut_any _ (by decide) _).mono ?_
                  rintro e w3 ⟨v1, rfl, hv1, hb3⟩
                  have hbb : Below wr.heap.size wr w3 := bt HB12.out hb3
                  have HV1 := hid hv1
                  have HA3 := hid (owns_later HA.out hbb)
                  have hz3 : w.heap.size ≤ w3.heap.size := (bt HB.out hbb).size
                  clear hv1
                  go_wp2_with (at_builtin; refine wpList_append_row rfl _ _ 34 rfl w.heap.size 5 i0 (.int .u8 0) 1 1 underB hi hz0 hz1 hz2 rfl (by decide) _ _ _ rfl HA3.out _ _ _ rfl HV1.out (cellsOf_one _) ?c1 ?c2 ?c3 ?_)
                  case c1 => have := enc_len ((32 : Int) : Int); omega
                  case c2 => have := enc_len ((32 : Int) : Int); unfold maxLen; omega
                  case c3 => exact hz3
                  intro v2 w4 hown2 hg2
                  have hb4 := grown_below (bt HB.out hbb) HA3.out (Nat.le_refl _) hg2
                  have HA4 := hid hown2
                  clear hown2 hg2
                  go_wp2_with fail
                  go_roundw
                  case rel => exact ⟨pos + 2, out ++ enc ((32 : Int) : Int), by go_num, HNX.out, by rw [List.length_append, cellsOf_append]; exact HA4.out, hb4⟩
                  case measure => simp [intOf]; omega
              · have h5' : pre [13, 10] m = false := by simpa using h5
                have hit := item_own (v := v) h0 h1 h2 h5'
                have hn := HNE.out (by rw [hit])
                rw [hit] at hn
                have hbg2 := hbg false h5'
                have HBG := hid hbg2
                clear h1 h2 h5 h5' hit hbg hbg2 hz60 hz38 hm2
                obtain ⟨c, k, hck⟩ : ∃ c k, rune m = (c, k) := ⟨_, _, rfl⟩
                rw [hck] at hrune hn h4 hz hle h0
                dsimp only at hrune hn h4 hz hle h0
                have HR := hid hrune
                have hk1 : 1 ≤ k := by omega
                clear hck hrune h0
                rcases h4 with rfl | rfl | rfl
                all_goals cases v
                · have HNX := hid hn
                  clear hn
                  go_wp2_with fail
                  refine HR.out.mono ?_
                  rintro e w2 ⟨rfl, hb2⟩
                  have HB12 := hid (bt HB1.out hb2)
                  clear hb2
                  go_wp2_with fail
                  refine (HBG.out _ (by decide) _).mono ?_
                  rintro e w2 ⟨rfl, rfl⟩
                  go_wp2_with fail
                  refine (RPut_any _ (by decide) _).mono ?_
                  rintro e w3 ⟨v1, rfl, hv1, hb3⟩
                  have hbb : Below wr.heap.size wr w3 := bt HB12.out hb3
                  have HV1 := hid hv1
                  have HA3 := hid (owns_later HA.out hbb)
                  have hz3 : w.heap.size ≤ w3.heap.size := (bt HB.out hbb).size
                  clear hv1
                  go_wp2_with (at_builtin; refine wpList_append_row rfl _ _ 34 rfl w.heap.size 5 i0 (.int .u8 0) 1 1 underB hi hz0 hz1 hz2 rfl (by decide) _ _ _ rfl HA3.out _ _ _ rfl HV1.out (cellsOf_one _) ?c1 ?c2 ?c3 ?_)
                  case c1 => have := enc_len ((10 : Int) : Int); omega
                  case c2 => have := enc_len ((10 : Int) : Int); unfold maxLen; omega
                  case c3 => exact hz3
                  intro v2 w4 hown2 hg2
                  have hb4 := grown_below (bt HB.out hbb) HA3.out (Nat.le_refl _) hg2
                  have HA4 := hid hown2
                  clear hown2 hg2
                  go_wp2_with fail
                  go_roundw
                  case rel => exact ⟨pos + k, out ++ enc ((10 : Int) : Int), by go_num, HNX.out, by rw [List.length_append, cellsOf_append]; exact HA4.out, hb4⟩
                  case measure => simp [intOf]; omega
                · have HNX := hid hn
                  clear hn
                  go_wp2_with fail
                  refine HR.out.mono ?_
                  rintro e w2 ⟨rfl, hb2⟩
                  have HB12 := hid (bt HB1.out hb2)
                  clear hb2
                  go_wp2_with fail
                  refine (HBG.out _ (by decide) _).mono ?_
                  rintro e w2 ⟨rfl, rfl⟩
                  go_wp2_with fail
                  refine (RPut_any _ (by decide) _).mono ?_
                  rintro e w3 ⟨v1, rfl, hv1, hb3⟩
                  have hbb : Below wr.heap.size wr w3 := bt HB12.out hb3
                  have HV1 := hid hv1
                  have HA3 := hid (owns_later HA.out hbb)
                  have hz3 : w.heap.size ≤ w3.heap.size := (bt HB.out hbb).size
                  clear hv1
                  go_wp2_with (at_builtin; refine wpList_append_row rfl _ _ 34 rfl w.heap.size 5 i0 (.int .u8 0) 1 1 underB hi hz0 hz1 hz2 rfl (by decide) _ _ _ rfl HA3.out _ _ _ rfl HV1.out (cellsOf_one _) ?c1 ?c2 ?c3 ?_)
                  case c1 => have := enc_len ((32 : Int) : Int); omega
                  case c2 => have := enc_len ((32 : Int) : Int); unfold maxLen; omega
                  case c3 => exact hz3
                  intro v2 w4 hown2 hg2
                  have hb4 := grown_below (bt HB.out hbb) HA3.out (Nat.le_refl _) hg2
                  have HA4 := hid hown2
                  clear hown2 hg2
                  go_wp2_with fail
                  go_roundw
                  case rel => exact ⟨pos + k, out ++ enc ((32 : Int) : Int), by go_num, HNX.out, by rw [List.length_append, cellsOf_append]; exact HA4.out, hb4⟩
                  case measure => simp [intOf]; omega
                · have HNX := hid hn
                  clear hn
                  go_wp2_with fail
                  refine HR.out.mono ?_
                  rintro e w2 ⟨rfl, hb2⟩
                  have HB12 := hid (bt HB1.out hb2)
                  clear hb2
                  go_wp2_with fail
                  refine (HBG.out _ (by decide) _).mono ?_
                  rintro e w2 ⟨rfl, rfl⟩
                  go_wp2_with fail
                  refine (RPut_any _ (by decide) _).mono ?_
                  rintro e w3 ⟨v1, rfl, hv1, hb3⟩
                  have hbb : Below wr.heap.size wr w3 := bt HB12.out hb3
                  have HV1 := hid hv1
                  have HA3 := hid (owns_later HA.out hbb)
                  have hz3 : w.heap.size ≤ w3.heap.size := (bt HB.out hbb).size
                  clear hv1
                  go_wp2_with (at_builtin; refine wpList_append_row rfl _ _ 34 rfl w.heap.size 5 i0 (.int .u8 0) 1 1 underB hi hz0 hz1 hz2 rfl (by decide) _ _ _ rfl HA3.out _ _ _ rfl HV1.out (cellsOf_one _) ?c1 ?c2 ?c3 ?_)
                  case c1 => have := enc_len ((10 : Int) : Int); omega
                  case c2 => have := enc_len ((10 : Int) : Int); unfold maxLen; omega
                  case c3 => exact hz3
                  intro v2 w4 hown2 hg2
                  have hb4 := grown_below (bt HB.out hbb) HA3.out (Nat.le_refl _) hg2
                  have HA4 := hid hown2
                  clear hown2 hg2
                  go_wp2_with fail
                  go_roundw
                  case rel => exact ⟨pos + k, out ++ enc ((10 : Int) : Int), by go_num, HNX.out, by rw [List.length_append, cellsOf_append]; exact HA4.out, hb4⟩
                  case measure => simp [intOf]; omega
                · have HNX := hid hn
                  clear hn
                  go_wp2_with fail
                  refine HR.out.mono ?_
                  rintro e w2 ⟨rfl, hb2⟩
                  have HB12 := hid (bt HB1.out hb2)
                  clear hb2
                  go_wp2_with fail
                  refine (HBG.out _ (by decide) _).mono ?_
                  rintro e w2 ⟨rfl, rfl⟩
                  go_wp2_with fail
                  refine (RPut_any _ (by decide) _).mono ?_
                  rintro e w3 ⟨v1, rfl, hv1, hb3⟩
                  have hbb : Below wr.heap.size wr w3 := bt HB12.out hb3
                  have HV1 := hid hv1
                  have HA3 := hid (owns_later HA.out hbb)
                  have hz3 : w.heap.size ≤ w3.heap.size := (bt HB.out hbb).size
                  clear hv1
                  go_wp2_with (at_builtin; refine wpList_append_row rfl _ _ 34 rfl w.heap.size 5 i0 (.int .u8 0) 1 1 underB hi hz0 hz1 hz2 rfl (by decide) _ _ _ rfl HA3.out _ _ _ rfl HV1.out (cellsOf_one _) ?c1 ?c2 ?c3 ?_)
                  case c1 => have := enc_len ((32 : Int) : Int); omega
                  case c2 => have := enc_len ((32 : Int) : Int); unfold maxLen; omega
                  case c3 => exact hz3
                  intro v2 w4 hown2 hg2
                  have hb4 := grown_below (bt HB.out hbb) HA3.out (Nat.le_refl _) hg2
                  have HA4 := hid hown2
                  clear hown2 hg2
                  go_wp2_with fail
                  go_roundw
                  case rel => exact ⟨pos + k, out ++ enc ((32 : Int) : Int), by go_num, HNX.out, by rw [List.length_append, cellsOf_append]; exact HA4.out, hb4⟩
                  case measure => simp [intOf]; omega
                · have HNX := hid hn
                  clear hn
                  go_wp2_with fail
                  refine HR.out.mono ?_
                  rintro e w2 ⟨rfl, hb2⟩
                  have HB12 := hid (bt HB1.out hb2)
                  clear hb2
                  go_wp2_with fail
                  refine (HBG.out _ (by decide) _).mono ?_
                  rintro e w2 ⟨rfl, rfl⟩
                  go_wp2_with fail
                  refine (RPut_any _ (by decide) _).mono ?_
                  rintro e w3 ⟨v1, rfl, hv1, hb3⟩
                  have hbb : Below wr.heap.size wr w3 := bt HB12.out hb3
                  have HV1 := hid hv1
                  have HA3 := hid (owns_later HA.out hbb)
                  have hz3 : w.heap.size ≤ w3.heap.size := (bt HB.out hbb).size
                  clear hv1
                  go_wp2_with (at_builtin; refine wpList_append_row rfl _ _ 34 rfl w.heap.size 5 i0 (.int .u8 0) 1 1 underB hi hz0 hz1 hz2 rfl (by decide) _ _ _ rfl HA3.out _ _ _ rfl HV1.out (cellsOf_one _) ?c1 ?c2 ?c3 ?_)
                  case c1 => have := enc_len ((9 : Int) : Int); omega
                  case c2 => have := enc_len ((9 : Int) : Int); unfold maxLen; omega
                  case c3 => exact hz3
                  intro v2 w4 hown2 hg2
                  have hb4 := grown_below (bt HB.out hbb) HA3.out (Nat.le_refl _) hg2
                  have HA4 := hid hown2
                  clear hown2 hg2
                  go_wp2_with fail
                  go_roundw
                  case rel => exact ⟨pos + k, out ++ enc ((9 : Int) : Int), by go_num, HNX.out, by rw [List.length_append, cellsOf_append]; exact HA4.out, hb4⟩
                  case measure => simp [intOf]; omega
                · have HNX := hid hn
                  clear hn
                  go_wp2_with fail
                  refine HR.out.mono ?_
                  rintro e w2 ⟨rfl, hb2⟩
                  have HB12 := hid (bt HB1.out hb2)
                  clear hb2
                  go_wp2_with fail
                  refine (HBG.out _ (by decide) _).mono ?_
                  rintro e w2 ⟨rfl, rfl⟩
                  go_wp2_with fail
                  refine (RPut_any _ (by decide) _).mono ?_
                  rintro e w3 ⟨v1, rfl, hv1, hb3⟩
                  have hbb : Below wr.heap.size wr w3 := bt HB12.out hb3
                  have HV1 := hid hv1
                  have HA3 := hid (owns_later HA.out hbb)
                  have hz3 : w.heap.size ≤ w3.heap.size := (bt HB.out hbb).size
                  clear hv1
                  go_wp2_with (at_builtin; refine wpList_append_row rfl _ _ 34 rfl w.heap.size 5 i0 (.int .u8 0) 1 1 underB hi hz0 hz1 hz2 rfl (by decide) _ _ _ rfl HA3.out _ _ _ rfl HV1.out (cellsOf_one _) ?c1 ?c2 ?c3 ?_)
                  case c1 => have := enc_len ((32 : Int) : Int); omega
                  case c2 => have := enc_len ((32 : Int) : Int); unfold maxLen; omega
                  case c3 => exact hz3
                  intro v2 w4 hown2 hg2
                  have hb4 := grown_below (bt HB.out hbb) HA3.out (Nat.le_refl _) hg2
                  have HA4 := hid hown2
                  clear hown2 hg2
                  go_wp2_with fail
                  go_roundw
                  case rel => exact ⟨pos + k, out ++ enc ((32 : Int) : Int), by go_num, HNX.out, by rw [List.length_append, cellsOf_append]; exact HA4.out, hb4⟩
                  case measure => simp [intOf]; omega
            · have h5' : pre [13, 10] m = false := by
                rw [← Bool.not_eq_true]
                intro h5
                have := rune_crlf h5
                rw [this] at h4
                exact h4 (.inl rfl)
              have hit := item_own (v := v) h0 h1 h2 h5'
              have hn := HNE.out (by rw [hit])
              rw [hit] at hn
              obtain ⟨hf, _, _, hk1, _⟩ := rune_some (l := m) (c := (rune m).1) (k := (rune m).2) rfl h0
              have hits : itself v (rune m).1 = (rune m).1 := by
                unfold itself
                split
                · rw [if_neg (by omega)]
                · rw [if_neg (by omega)]
              rw [hits] at hn
              have z13 : (((rune m).1 : Int) == 13) = false := by rw [beq_eq_false_iff_ne]; omega
              have z10 : (((rune m).1 : Int) == 10) = false := by rw [beq_eq_false_iff_ne]; omega
              have z9 : (((rune m).1 : Int) == 9) = false := by rw [beq_eq_false_iff_ne]; omega
              have HNX := hid hn
              have HFI := hid hf
              have HR := hid hrune
              clear h0 h1 h2 h4 h5' hit hn hrune hits hf
              generalize rune m = r at *
              go_wp2_with fail
              refine HR.out.mono ?_
              rintro e w2 ⟨rfl, hb2⟩
              have HB12 := hid (bt HB1.out hb2)
              clear hb2
              go_wp2_with fail
              refine (RPut_any _ HFI.out _).mono ?_
              rintro e w3 ⟨v1, rfl, hv1, hb3⟩
              have hbb : Below wr.heap.size wr w3 := bt HB12.out hb3
              have HV1 := hid hv1
              have HA3 := hid (owns_later HA.out hbb)
              have hz3 : w.heap.size ≤ w3.heap.size := (bt HB.out hbb).size
              clear hv1
              go_wp2_with (at_builtin; refine wpList_append_row rfl _ _ 34 rfl w.heap.size 5 i0 (.int .u8 0) 1 1 underB hi hz0 hz1 hz2 rfl (by decide) _ _ _ rfl HA3.out _ _ _ rfl HV1.out (cellsOf_one _) ?c1 ?c2 ?c3 ?_)
              case c1 => have := enc_len (r.1 : Int); omega
              case c2 => have := enc_len (r.1 : Int); unfold maxLen; omega
              case c3 => exact hz3
              intro v2 w4 hown2 hg2
              have hb4 := grown_below (bt HB.out hbb) HA3.out (Nat.le_refl _) hg2
              have HA4 := hid hown2
              clear hown2 hg2
              go_wp2_with fail
              go_roundw
              case rel => exact ⟨pos + r.2, out ++ enc (r.1 : Int), by go_num, HNX.out, by rw [List.length_append, cellsOf_append]; exact HA4.out, hb4⟩
              case measure => simp [intOf]; omega
    · have hd := HTO.out.done hp
      have hcv := (Bytes.ofOwns HA.out (by omega)).conv (P := Tryd.prog) 34 9 5 underB under8 under9
      have hpl : pos = l.length := by omega
      have HD := hid hd
      have HP := hid hpl
      clear hd hpl
      go_wp2
      go_ret3
      exact ⟨by rw [HD.out, HP.out]; rfl, HB.out⟩
end Go.Proofs.YtabplemabcahgaaDoor.Ent
