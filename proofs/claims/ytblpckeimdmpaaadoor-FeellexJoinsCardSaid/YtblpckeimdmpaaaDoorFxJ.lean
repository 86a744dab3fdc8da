/- Layer 8: the walk of the statement FeellexJoins. -/
import Derived.Test.YtblpckeimdmpaaaDoorFxF
set_option linter.unusedVariables false
set_option linter.unusedSimpArgs false
namespace Go.Proofs.YtblpckeimdmpaaaDoor.Fx
open Go Go.Proofs.YtblpckeimdmpaaaDoor Go.Proofs.YtblpckeimdmpaaaDoor.Utf Go.Proofs.YtblpckeimdmpaaaDoor.Names Go.Proofs.YtblpckeimdmpaaaDoor.Ent Go.Proofs.YtblpckeimdmpaaaDoor.Fl Go.RowKit
set_option maxRecDepth 100000

theorem text_of (s : ByteArray) : ∃ l, s = text l ∧ l.length = s.size := ⟨s.data.toList, by simp [text], (Lib.size_eq s).symm⟩
theorem join_check {l m : List UInt8} (hl : check l = l.length) (hm : check m = m.length) : check (l ++ 32 :: m) = (l ++ 32 :: m).length := by
  rw [check_app hl, check_cons m (by decide) (by decide), hm, List.length_append, List.length_cons]; omega
/-- A token, further behind. -/
def far (d : Nat) (t : Lx) : Lz := ⟨t.kind, (t.place : Int) + (d + 1), t.s⟩
theorem far_is (d : Nat) (ts : List Lx) : (shift (d + 1) ts).map lz = ts.map (far d) := by
  unfold shift
  rw [List.map_map]
  apply List.map_congr_left
  intro t _
  show Lz.mk _ _ _ = Lz.mk _ _ _
  congr 1
theorem join_lex {l m : List UInt8} {a b : List Lx} (hl : check l = l.length) (ha : lexp 0 l = .ok a) (hb : lexp 0 m = .ok b) :
    ∃ ts, a = ts ++ [⟨5, l.length, []⟩] ∧ lexp 0 (l ++ 32 :: m) = .ok (ts ++ shift (l.length + 1) b) := by
  obtain ⟨ts, e1, e2⟩ := lexp_join _ l rfl hl 0 a ha
  refine ⟨ts, by rw [e1, Nat.zero_add], ?_⟩
  have h := lexp_shift _ m rfl 0 (l.length + 1) b hb
  rw [Nat.zero_add] at h
  rw [e2 m, Nat.zero_add, h]
  rfl

set_option maxHeartbeats 8000000 in
theorem FeellexJoins_walk (s t : ByteArray) (hs : s.size ≤ 140737488351232) (ht : t.size ≤ 140737488351232) (w : World) (hF : Fit w) :
    Calls Tryd.prog 4 #[.string s, .string t] w fun e w' => e = .returned (.bool true) ∧ Below w.heap.size w w' := by
  obtain ⟨l, rfl, hl⟩ := text_of s
  obtain ⟨m, rfl, hm⟩ := text_of t
  rw [← hl] at hs
  rw [← hm] at ht
  have HF := hid hF
  clear hF
  by_cases hb : 800 < l.length
  · have hbb : (800 : Int) < ((text l).size : Int) := by omega
    clear hl hm
    go_enter Tryd.func4, Tryd.ntmps4
    go_wp2_with fail
    refine (alive_any _ HF.out).mono ?_
    rintro e w1 ⟨rfl, hb1⟩
    go_wp2
    go_ret
    exact ⟨rfl, hb1⟩
  have hbb : ¬ (800 : Int) < ((text l).size : Int) := by omega
  by_cases hc : 800 < m.length
  · have hcc : (800 : Int) < ((text m).size : Int) := by omega
    clear hl hm
    go_enter Tryd.func4, Tryd.ntmps4
    go_wp2_with fail
    refine (alive_any _ HF.out).mono ?_
    rintro e w1 ⟨rfl, hb1⟩
    go_wp2
    go_ret
    exact ⟨rfl, hb1⟩
  have hcc : ¬ (800 : Int) < ((text m).size : Int) := by omega
  obtain ⟨i0, hi, hz0, hz1, hz2⟩ := info_parts infoLex
  have HLl := hid (fun w (hF : Fit w) => Lex_any l (by omega) w hF.1 hF.2)
  have HLm := hid (fun w (hF : Fit w) => Lex_any m (by omega) w hF.1 hF.2)
  have HLc := hid (fun w (hF : Fit w) => Lex_any (l ++ 32 :: m) (by simp; omega) w hF.1 hF.2)
  have e1 : text l ++ (⟨#[32]⟩ : ByteArray) = text (l ++ [32]) := by rw [show (⟨#[32]⟩ : ByteArray) = text [32] from rfl, Names.text_append]
  have e2 : text (l ++ [32]) ++ text m = text (l ++ 32 :: m) := by rw [Names.text_append]; simp
  have z1 : (text l).size + (⟨#[32]⟩ : ByteArray).size ≤ 9223372036854775807 := by rw [text_size, show (⟨#[32]⟩ : ByteArray).size = 1 from rfl]; omega
  have z2 : (text (l ++ [32])).size + (text m).size ≤ 9223372036854775807 := by rw [text_size, text_size]; simp; omega
  have s1 : (text l).size = l.length := text_size l
  have HJ := hid (fun a b hl ha hb => @join_lex l m a b hl ha hb)
  have HCK := hid (fun h1 h2 => @join_check l m h1 h2)
  have hbl : l.length ≤ 800 := by omega
  have hbm : m.length ≤ 800 := by omega
  clear hl hm hs ht hb hc
  generalize hxx : l ++ 32 :: m = x at *
  generalize hyy : l ++ [32] = y at *
  clear hxx hyy
  have hpre : ∀ w0 w1 w2 : World, Below w0.heap.size w0 w1 → Below w1.heap.size w1 w2 → Below w0.heap.size w0 w2 := fun _ _ _ h k => bt h k
  go_enter Tryd.func4, Tryd.ntmps4
  go_wp2_with fail
  refine (HLl.out _ HF.out).mono ?_
  rintro e w1 ⟨hg1, hb1⟩
  have HF1 := hid (HF.out.below hb1 (Nat.le_refl _))
  have HB1 := hid hb1
  rcases hg1.ways with ⟨_, n1, E1, rfl, hE1, _⟩ | ⟨ta, va, _, hck1, hlx1, rfl, ho1⟩
  · have q1 : ((E1 : Int) == 0) = false := by rw [beq_eq_false_iff_ne]; omega
    have q1' : ((E1 : Int) != 0) = true := by rw [bne, q1]; rfl
    clear hg1 hb1
    go_wp2_with fail
    refine (HLm.out _ HF1.out).mono ?_
    rintro e w2 ⟨hg2, hb2⟩
    have HF2 := hid (HF1.out.below hb2 (Nat.le_refl _))
    have HB2 := hid (bt HB1.out hb2)
    have hw2 : ∃ v2 n2 E2, e = .returned (.tuple #[v2, .int .i64 n2, .int .i64 E2]) := by
      rcases hg2.ways with ⟨_, n2, E2, he, _⟩ | ⟨tb, vb, _, _, _, he, _⟩
      · exact ⟨_, _, _, he⟩
      · exact ⟨_, _, _, he⟩
    obtain ⟨v2, n2, E2, rfl⟩ := hw2
    clear hg2 hb2
    go_wp2_with fail
    refine (alive_any _ HF2.out).mono ?_
    rintro e w3 ⟨rfl, hb3⟩
    go_wp2
    go_ret
    exact ⟨rfl, bt HB2.out hb3⟩
  · have HO1 := hid ho1
    have HK1 := hid hck1
    have HX1 := hid hlx1
    obtain ⟨a1, a2, a3⟩ := (lexp_facts _ l rfl 0).1 ta hlx1
    have hne : 0 < ta.length := List.length_pos_iff.2 a3
    clear hg1 hb1 ho1 hck1 hlx1 a3
    go_wp2_with fail
    refine (HLm.out _ HF1.out).mono ?_
    rintro e w2 ⟨hg2, hb2⟩
    have HF2 := hid (HF1.out.below hb2 (Nat.le_refl _))
    have HB2 := hid (bt HB1.out hb2)
    have HO2 := hid (HO1.out.later hb2)
    have hlena := fun W => (HO1.out.lexs (by rw [List.length_map]; omega)).len (P := Tryd.prog) 26 3 30 undLs W
    rw [List.length_map] at hlena
    have qa : ((ta.length : Int) == 0) = false := by rw [beq_eq_false_iff_ne]; omega
    rcases hg2.ways with ⟨_, n2, E2, rfl, hE2, _⟩ | ⟨tb, vb, _, hck2, hlx2, rfl, ho2⟩
    · have q2 : ((E2 : Int) == 0) = false := by rw [beq_eq_false_iff_ne]; omega
      have q2' : ((E2 : Int) != 0) = true := by rw [bne, q2]; rfl
      clear hg2 hb2
      go_wp2_with fail
      refine (alive_any _ HF2.out).mono ?_
      rintro e w3 ⟨rfl, hb3⟩
      go_wp2
      go_ret
      exact ⟨rfl, bt HB2.out hb3⟩
    · obtain ⟨ts, hta, hjx⟩ := HJ.out ta tb HK1.out HX1.out hlx2
      have hck3 := HCK.out HK1.out hck2
      obtain ⟨b1, b2, _⟩ := (lexp_facts _ m rfl 0).1 tb hlx2
      have hb2p : ∀ t ∈ tb, t.place ≤ m.length := fun t ht => by have := (b2 t ht).1; omega
      have HT := hid hta
      have HJX := hid hjx
      have HK3 := hid hck3
      have HP := hid hb2p
      have HOB := hid ho2
      have htl : ta.length = ts.length + 1 := by rw [hta, List.length_append]; rfl
      clear hg2 hb2 hck2 hlx2 ho2 hta hjx hck3 a2 b2 hb2p
      go_wp2_with fail
      refine (HLc.out _ HF2.out).mono ?_
      rintro e w3 ⟨hg3, hb3⟩
      obtain ⟨vc, rfl, ho3⟩ := hg3.ok HK3.out HJX.out
      have HF3 := hid (HF2.out.below hb3 (Nat.le_refl _))
      have HB3 := hid (bt HB2.out hb3)
      have HOC := hid ho3
      have HOA3 := hid (HO2.out.later hb3)
      have HOB3 := hid (HOB.out.later hb3)
      clear hg3 hb3 ho3
      have hlenb := fun W => (HOB.out.lexs (by rw [List.length_map]; omega)).len (P := Tryd.prog) 26 3 30 undLs W
      rw [List.length_map] at hlenb
      have hla3 : Lexs w3 va (ta.map lz) := HOA3.out.lexs (by rw [List.length_map]; omega)
      obtain ⟨va', _, _, hsl0, hrow0⟩ := Row.sub (P := Tryd.prog) hla3 0 ts.length (by omega) (by rw [List.length_map]; omega) 26 30 undLs sizL
      have hsl : ∀ kh W, (Instr.slice 26 va none (some (.int kh (ts.length : Int))) none).run Tryd.prog W = .ok va' W := fun kh W => hsl0 rfl kh W
      have hcells : (((ta.map lz).flatMap lzCells).drop (0 * 3)).take ((ts.length - 0) * 3) = (ts.map lz).flatMap lzCells := by
        rw [Nat.zero_mul, List.drop_zero, Nat.sub_zero, HT.out, List.map_append, List.flatMap_append]
        have hfl : ((ts.map lz).flatMap lzCells).length = ts.length * 3 := by
          have : ∀ l : List Lz, (l.flatMap lzCells).length = l.length * 3 := by
            intro l
            induction l with
            | nil => rfl
            | cons a r ih => rw [List.flatMap_cons, List.length_append, ih, List.length_cons]; show 3 + _ = _; omega
          rw [this, List.length_map]
        rw [← hfl, List.take_left]
      rw [hcells, Nat.sub_zero] at hrow0
      have HR0 := hid (Row.below hrow0 (ba (b0 w3) (.cells #[] 30)) (Nat.le_refl _))
      have HOE := hid (owns_empty w3 30 3 w3.heap.size (Nat.le_refl _))
      have hminus : ((ta.length : Int) - 1) = (ts.length : Int) := by omega
      clear hla3 hsl0 hrow0 hcells
      go_wp2_with (at_builtin; refine wpList_append_row rfl _ _ 26 rfl w3.heap.size 30 i0 _ 3 32 undLs hi hz0 hz1 hz2 rfl (by decide) _ _ _ rfl HOE.out _ ts.length ((ts.map lz).flatMap lzCells) rfl HR0.out ?d0 ?d1 ?d2 ?d3 ?_)
      case d0 => exact lzCells_one _
      case d1 => omega
      case d2 => unfold maxLen; omega
      case d3 => simp
      intro v4 w4 hown4 hg4
      have HB4 := hid (grown_below (ba (b0 w3) (.cells #[] 30)) HOE.out (Nat.le_refl _) hg4)
      have HW4 : Hid (OwnL w3.heap.size w4 v4 (ts.map lz)) := hid (by unfold OwnL; rw [List.length_map]; exact hown4)
      have hlt4 : w3.heap.size ≤ w4.heap.size := HB4.out.size
      clear hown4 hg4
      go_wp2_with fail
      go_loopw [14, 76] (fun wv iv wr => ∃ k : Nat, iv = .int .i64 k ∧ k ≤ tb.length ∧ OwnL w3.heap.size wr wv (ts.map lz ++ (tb.take k).map (far l.length)) ∧ Below w3.heap.size w3 wr) (fun _ iv _ => tb.length - (intOf iv).toNat)
      case atStart => exact ⟨0, rfl, Nat.zero_le _, by simpa using HW4.out, HB4.out⟩
      case round =>
        rename World => wr
        obtain ⟨k, rfl, hk, how, hbr⟩ := hrel
        have hzr : w3.heap.size ≤ wr.heap.size := hbr.size
        by_cases hlt : k < tb.length
        · have hLB : Lexs wr vb (tb.map lz) := (HOB3.out.lexs (by rw [List.length_map]; omega)).below hbr (Nat.le_refl _)
          obtain ⟨bb, ob, hib, k0, k1, k2⟩ := hLB.pick k (k : Int) rfl (lz tb[k]) (by simp [hlt])
          have hpl := HP.out tb[k] (List.getElem_mem hlt)
          have htk : ts.map lz ++ (tb.take (k + 1)).map (far l.length) = (ts.map lz ++ (tb.take k).map (far l.length)) ++ [far l.length tb[k]] := by
            rw [List.take_succ_eq_append_getElem hlt, List.map_append, List.append_assoc]; rfl
          have hlen5 : (ts.map lz ++ (tb.take k).map (far l.length)).length = ts.length + k := by simp; omega
          generalize ts.map lz ++ (tb.take k).map (far l.length) = X at *
          have HTK := hid htk
          clear htk hLB
          generalize tb[k] = q at *
          obtain ⟨kk, pp, ss⟩ := q
          dsimp only [lz] at k0 k1 k2 hpl
          have ho5 : ((wr.alloc (.cells #[.int .i64 kk, .int .i64 ((pp : Int) + ((l.length : Int) + 1)), .string (text ss)] 30)).alloc (.cells #[.int .i64 kk, .int .i64 ((pp : Int) + ((l.length : Int) + 1)), .string (text ss)] 30)).ownsRow w3.heap.size 30 3 u14 X.length (X.flatMap lzCells) := OwnL.later how (ba (ba (b0 wr) _) _)
          have hrow := Row.ofBuild (sz := 3) (wr.alloc (.cells #[.int .i64 kk, .int .i64 ((pp : Int) + ((l.length : Int) + 1)), .string (text ss)] 30)) #[.int .i64 kk, .int .i64 ((pp : Int) + ((l.length : Int) + 1)), .string (text ss)] 30 1 rfl (by omega)
          rw [show (wr.alloc (.cells #[.int .i64 kk, .int .i64 ((pp : Int) + ((l.length : Int) + 1)), .string (text ss)] 30)).heap.size = wr.heap.size + 1 from by simp] at hrow
          have HRow := hid hrow
          have HO5 := hid ho5
          have HBR := hid hbr
          clear ho5 hrow how hbr
          go_wp2_with (at_builtin; refine wpList_append_row rfl _ _ 26 rfl w3.heap.size 30 i0 _ 3 32 undLs hi hz0 hz1 hz2 rfl (by decide) _ _ _ rfl HO5.out _ 1 [.int .i64 kk, .int .i64 ((pp : Int) + ((l.length : Int) + 1)), .string (text ss)] rfl HRow.out ?f0 ?f1 ?f2 ?f3 ?_)
          case f0 => first | exact ⟨rfl, rfl, rfl⟩ | (intro u hu; simp only [List.mem_cons, List.mem_nil_iff, or_false] at hu; rcases hu with rfl | rfl | rfl <;> rfl)
          case f1 => first | omega | (simp; omega)
          case f2 => first | (unfold maxLen; omega) | (simp; unfold maxLen; omega)
          case f3 => first | omega | (simp; omega)
          intro v6 w6 hown6 hg6
          have hb6 : Below w3.heap.size w3 w6 := ((HBR.out.alloc hzr _).alloc (by simp; omega) _).grown hg6 (by simp; omega) (fun k hk => (HO5.out.lt k hk).1)
          have HW6 := hid (OwnL.snoc (l := X) (t := far l.length ⟨kk, pp, ss⟩) (by rw [hlen5]; exact hown6))
          have HB6 := hid hb6
          clear hown6 hg6 hb6
          go_wp2_with fail
          go_roundw
          case rel => exact ⟨k + 1, by go_num, by omega, by rw [HTK.out]; exact HW6.out, HB6.out⟩
          case measure => simp [intOf]; omega
        · have hke : k = tb.length := by omega
          rw [hke, List.take_length] at how
          have HFr := hid (HF3.out.below hbr (Nat.le_refl _))
          have HLW := hid (how.lexs (by simp; omega))
          have HLC := hid ((HOC.out.lexs (by unfold shift; simp; omega)).below hbr (Nat.le_refl _))
          have HBR := hid (HB3.out.trans (hbr.mono HB3.out.size))
          clear how hbr hke
          go_wp2_with fail
          refine (alive_any _ HFr.out).mono ?_
          rintro e w6 ⟨rfl, hb6⟩
          have hsm := Same_any true _ _ _ _ _ (HLC.out.below hb6 (Nat.le_refl _)) (HLW.out.below hb6 (Nat.le_refl _))
          rw [sameL_yes (by rw [List.map_append, far_is])] at hsm
          have HSM := hid hsm
          have HB6 := hid (HBR.out.trans (hb6.mono HBR.out.size))
          clear hsm hb6
          go_wp2_with fail
          refine HSM.out.mono ?_
          rintro e w7 ⟨rfl, hb7⟩
          go_wp2
          go_ret
          exact ⟨rfl, bt HB6.out hb7⟩
end Go.Proofs.YtblpckeimdmpaaaDoor.Fx
