/- Layer 2: contracts of the document's own answers: chars, Plain. | Layer 2: contract of the document's own answer to Split. | Layer 4: contract of the code's own Same. | Layer 4: contracts of the document's own attrs, token and Write. | Layer 4: contracts of the document's own token and Write. | Layer 4: the walk of the statement XmltokWrites. -/
import Derived.Test.YthodmdfbahkflaaGreatDoorPk4
import Derived.Test.YthodmdfbahkflaaGreatDoorPk2
import Derived.Test.YthodmdfbahkflaaGreatDoorPk3
import Derived.Test.YthodmdfbahkflaaGreatDoorTkF
import Derived.Test.YthodmdfbahkflaaGreatDoorTkR
import Derived.Test.YthodmdfbahkflaaGreatDoorTkX
set_option linter.unusedVariables false
set_option linter.unusedSimpArgs false
namespace Go.Proofs.YthodmdfbahkflaaGreatDoor.Names
open Go Go.Proofs.YthodmdfbahkflaaGreatDoor Go.Proofs.YthodmdfbahkflaaGreatDoor.Utf Go.RowKit
set_option maxRecDepth 100000

theorem underN : Tryz.prog.underlying 112 = some (.slice 3) := Tryz.underlying112
theorem sizeI (W : World) : (sizeOf 3).run Tryz.prog W = .ok 1 W := Tryz.sizeOf3 W
theorem infoI : (Tryz.prog.info? 3).map (fun i => (i.zero, i.size, i.bytes)) = some (some (.int .i64 0), 1, 8) := by kernel_rfl

def ints (cs : List Nat) : List Int := cs.map fun (c : Nat) => (c : Int)
theorem ints_len (cs : List Nat) : (ints cs).length = cs.length := by simp [ints]
theorem ints_snoc (cs : List Nat) (c : Nat) : ints (cs ++ [c]) = ints cs ++ [(c : Int)] := by simp [ints]

set_option maxHeartbeats 2000000 in
theorem RChars_any (l : List UInt8) (hl : l.length ≤ 4000000) (w : World) :
    Calls Tryz.prog 50 #[.string (text l)] w fun e w' => ∃ v, e = .returned (.tuple #[v, .bool (chars l).isSome]) ∧ (∀ cs, chars l = some cs → Nums w' v (ints cs)) ∧ Below w.heap.size w w' := by
  obtain ⟨i1, hi', hz0', hz1', hz2'⟩ := info_parts infoI
  obtain ⟨v, w1, hcv, hv, hb1⟩ := conv_text (P := Tryz.prog) (text l) (by rw [text_size]; omega) 9 24 5 under9 underB under8 w
  rw [text_data] at hv
  have HV := hid hv
  have HB1 := hid hb1
  clear hv hb1
  go_enter Tryz.func50, Tryz.ntmps50
  go_wp2_with fail
  clear hcv
  go_loopw [4, 5] (fun o b wr => ∃ (pos : Nat) (cs : List Nat), Got l pos cs ∧ Bytes w1 b (l.drop pos) ∧ wr.ownsRow w1.heap.size 3 1 o cs.length (numsOf (ints cs)) ∧ Below w1.heap.size w1 wr) (fun _ b _ => lenOf b)
  case atStart => exact ⟨0, [], Got.start l, HV.out, World.ownsRow_nil _ _ _ _, b0 _⟩
  case round =>
    obtain ⟨pos, cs, hg, hb, ho, hbr⟩ := hrel
    have hlen := fun W => hb.len (P := Tryz.prog) 24 3 5 underB W
    by_cases hp : pos < l.length
    · have hR := RRune_any u5 _ _ (hb.below hbr (Nat.le_refl _))
      unfold pairV at hR
      have hk := rune_le (l.drop pos)
      have hdl : (l.drop pos).length = l.length - pos := by simp
      by_cases z : (rune (l.drop pos)).2 = 0
      · have hr0 := rune_none z
        rw [hr0] at hR
        have HR := hid hR
        have HG := hid (hg.stop hp z)
        have HB := hid hbr
        rw [hdl] at hlen
        clear hg z hr0 hR hbr hb ho hk
        go_wp2_with (go_at_call 49; refine HR.out.mono ?_; rintro e w2 ⟨rfl, hb2⟩)
        go_ret2
        refine ⟨_, by rw [HG.out]; rfl, fun cs h => (by rw [HG.out] at h; cases h), bt HB1.out (bt HB.out hb2)⟩
      · have hg2 := hg.next z
        obtain ⟨v', _, a2, _, hv'⟩ := hb.sub (rune (l.drop pos)).2 (l.drop pos).length hk.1 (Nat.le_refl _) 24 5 underB size8
        have a3 := a2 rfl
        rw [List.take_of_length_le (by rw [List.length_drop]; exact Nat.le_refl _), List.drop_drop] at hv'
        have hz : (((rune (l.drop pos)).2 : Int) == 0) = false := by rw [beq_eq_false_iff_ne]; omega
        have HR := hid hR
        have HG := hid hg2
        have HB := hid hbr
        have HV2 := hid hv'
        have HO := hid ho
        have hcs := hg.2.1
        have hm1 := hb.lenOf
        have hk1 : 1 ≤ (rune (l.drop pos)).2 := by omega
        have hm2 := hv'.lenOf
        have HM1 := hid hm1
        have HM2 := hid hm2
        rw [hdl] at hlen
        clear hg2 hg z hR hbr hb ho a2 hv' hm1 hm2
        obtain ⟨c, k, hck⟩ : ∃ c k, rune (l.drop pos) = (c, k) := ⟨_, _, rfl⟩
        rw [hck] at hk hk1 hz HR HG HM2 HV2
        rw [hck] at a3
        dsimp only at hk hk1 hz HR HG HM2 HV2 a3
        clear hck
        go_wp2_with fail
        refine HR.out.mono ?_
        rintro e w2 ⟨rfl, hb2⟩
        have HO2 := hid (owns_later HO.out hb2)
        have HBL := hid (bt HB.out hb2)
        go_wp2_with (at_builtin; refine wpList_append_row rfl _ _ 112 rfl w1.heap.size 3 i1 (.int .i64 0) 1 8 underN hi' hz0' hz1' hz2' rfl (by decide) _ _ _ rfl (HO2.out.alloc _) _ 1 [.int .i64 c] rfl (Row.ofBuild w2 #[.int .i64 c] _ 1 rfl (by omega)) (numsOf_one [c]) ?d1 ?d2 ?d3 ?_)
        case d1 => omega
        case d2 => unfold maxLen; omega
        case d3 => have := HBL.out.size; simp; omega
        intro v3 w3 hown3 hg3
        have hb3 := grown_below (ba HBL.out (.cells #[.int .i64 c] 3)) (HO2.out.alloc _) (Nat.le_refl _) hg3
        have HO3 := hid hown3
        have HB3 := hid hb3
        clear hown3 hg3 hb3
        go_wp2_with fail
        go_roundw
        case rel =>
          refine ⟨_, _, HG.out, HV2.out, ?_, HB3.out⟩
          rw [List.length_append, ints_snoc, numsOf_append]; exact HO3.out
        case measure => rw [HM1.out, HM2.out]; simp; omega
    · have HG := hid (hg.done hp)
      have HB := hid hbr
      have HO := hid (Nums.ofOwns (l := ints cs) (by rw [ints_len]; exact ho) (by have := hg.2.1; have := hg.1; rw [ints_len]; omega))
      have hdl : (l.drop pos).length = 0 := by simp; omega
      rw [hdl] at hlen
      clear hg hbr ho hb hdl
      go_wp2
      go_ret2
      refine ⟨_, by rw [HG.out]; rfl, fun cs' h => ?_, bt HB1.out HB.out⟩
      rw [HG.out] at h
      cases h
      exact HO.out
/-! words -/
def shpC (p q : Int → Bool) : Option (List Nat) → Bool
  | some (c :: cs) => p c && cs.all (fun c => q c)
  | _ => false
theorem shp_eq (p q : Int → Bool) (l : List UInt8) : shp p q l = shpC p q (chars l) := by unfold shp shpC; rfl
theorem all_take (q : Int → Bool) (cs : List Nat) (k : Nat) (hk : k < cs.length) : (cs.take (k + 1)).all (fun c => q c) = ((cs.take k).all (fun c => q c) && q (cs[k] : Nat)) := by
  rw [List.take_succ_eq_append_getElem hk, List.all_append]; simp
theorem all_stop (q : Int → Bool) (cs : List Nat) (k : Nat) (hk : k < cs.length) (h : q (cs[k] : Nat) = false) : cs.all (fun c => q c) = false := by
  rw [List.all_eq_false]; exact ⟨cs[k], List.getElem_mem hk, by simp [h]⟩

set_option maxHeartbeats 2000000 in
theorem RPlain_any (l : List UInt8) (hl : l.length ≤ 4000000) (w : World) :
    Calls Tryz.prog 31 #[.string (text l)] w fun e w' => e = .returned (.bool (plainB l)) ∧ Below w.heap.size w w' := by
  have hc := RChars_any l hl w
  have hsp : plainB l = (shpC Utf.first Utf.part (chars l)) := by
    exact shp_eq _ _ l
  cases hch : chars l with
  | none =>
    rw [hch] at hc hsp
    have HC := hid hc
    have HS := hid hsp
    clear hc hch hsp
    go_enter Tryz.func31, Tryz.ntmps31
    go_wp2_with (go_at_call 50; refine HC.out.mono ?_; rintro e w1 ⟨v, rfl, hn, hb⟩)
    go_ret
    exact ⟨by rw [HS.out]; rfl, hb⟩
  | some cs0 =>
    rw [hch] at hc hsp
    have hcl := chars_len l cs0 hch
    cases cs0 with
    | nil =>
      have HC := hid hc
      have HS := hid hsp
      clear hc hch hsp
      go_enter Tryz.func31, Tryz.ntmps31
      go_wp2_with (go_at_call 50; refine HC.out.mono ?_; rintro e w1 ⟨v, rfl, hn, hb⟩; have hlen := fun W => (hn _ rfl).len (P := Tryz.prog) 112 3 3 underN W; rw [ints_len] at hlen; clear hn)
      go_ret
      exact ⟨by rw [HS.out]; rfl, hb⟩
    | cons c cs =>
      have HC := hid hc
      have hF := fun w => RFirst_any (c : Int) w
      clear hc hch
      cases hf : Utf.first c
      · have hs : plainB l = false := by rw [hsp]; simp [shpC, hf]
        rw [hf] at hF
        have HS := hid hs
        have HF := hid hF
        clear hs hF hf hsp
        go_enter Tryz.func31, Tryz.ntmps31
        go_wp2_with fail
        refine HC.out.mono ?_
        rintro e w1 ⟨v, rfl, hn, hb⟩
        have hv := hn _ rfl
        have hlen := fun W => hv.len (P := Tryz.prog) 112 3 3 underN W
        rw [ints_len] at hlen
        obtain ⟨b, o, ha, hcell⟩ := hv.at 0 (by simp [ints]) 112 3 underN sizeI
        have hcell2 : w1.cell? ⟨b, o, none⟩ = some (.int .i64 c) := hcell
        have ha0 : ∀ q W, (Instr.indexAt 112 v (.int q 0)).run Tryz.prog W = .ok (.pointer (some ⟨b, o, none⟩)) W := ha
        clear ha
        clear hcell hn hv
        have hne : (((c :: cs).length : Int) == 0) = false := by rw [beq_eq_false_iff_ne]; simp; omega
        generalize (c :: cs).length = n at *
        go_wp2_with (go_at_call 51; refine (HF.out _).mono ?_; rintro e w2 ⟨rfl, rfl⟩)
        go_ret
        exact ⟨by rw [HS.out]; rfl, hb⟩
      · rw [hf] at hF
        have HF := hid hF
        have hs : plainB l = (cs.all (fun c => Utf.part c)) := by rw [hsp]; simp [shpC, hf]
        have HS := hid hs
        clear hs hF hf hsp
        go_enter Tryz.func31, Tryz.ntmps31
        go_wp2_with fail
        refine HC.out.mono ?_
        rintro e w1 ⟨v, rfl, hn, hb⟩
        have hv := hn _ rfl
        have hlen := fun W => hv.len (P := Tryz.prog) 112 3 3 underN W
        rw [ints_len] at hlen
        obtain ⟨b, o, ha, hcell⟩ := hv.at 0 (by simp [ints]) 112 3 underN sizeI
        have hcell2 : w1.cell? ⟨b, o, none⟩ = some (.int .i64 c) := hcell
        have ha0 : ∀ q W, (Instr.indexAt 112 v (.int q 0)).run Tryz.prog W = .ok (.pointer (some ⟨b, o, none⟩)) W := ha
        clear ha
        have hat : ∀ k, (hk : k < cs.length) → ∀ w2, Below w1.heap.size w1 w2 → ∃ b o, (∀ q W, (Instr.indexAt 112 v (.int q ((k : Int) + 1))).run Tryz.prog W = .ok (.pointer (some ⟨b, o, none⟩)) W) ∧ w2.cell? ⟨b, o, none⟩ = some (.int .i64 (cs[k] : Nat)) := by
          intro k hk w2 hb2
          obtain ⟨b, o, h1, h2⟩ := (hv.below hb2 (Nat.le_refl _)).at (k + 1) (by rw [ints_len]; simp; omega) 112 3 underN sizeI
          exact ⟨b, o, h1, by simpa [ints] using h2⟩
        have HAT := hid hat
        clear hcell hn hv hat
        have hne : (((c :: cs).length : Int) == 0) = false := by rw [beq_eq_false_iff_ne]; simp; omega
        obtain ⟨n, hnn⟩ : ∃ n, (c :: cs).length = n := ⟨_, rfl⟩
        have hn1 : n = cs.length + 1 := by rw [← hnn]; simp
        rw [hnn] at hne hlen
        have hcs : cs.length < 4000000 := by have := hcl; simp at this; omega
        have HN1 := hid hn1
        have hnb : n ≤ 4000000 := by omega
        clear hnn hn1
        go_wp2_with (go_at_call 51; refine (HF.out _).mono ?_; rintro e w2 ⟨rfl, rfl⟩)
        go_loop [5] (fun i => ∃ k : Nat, i = .int .i64 ((k : Int) + 1) ∧ k ≤ cs.length ∧ (cs.take k).all (fun c => Utf.part c) = true) (fun i => n - (intOf i).toNat)
        case atStart => exact ⟨0, rfl, by omega, by simp⟩
        case round =>
          obtain ⟨k, rfl, hk, hall⟩ := hrel
          have HALL := hid hall
          clear hall
          by_cases hlt : k < cs.length
          · have hlt2 : (k : Int) + 1 < (n : Int) := by have := HN1.out; omega
            have hq := fun w => RPart_any ((cs[k] : Nat) : Int) w
            have hst := all_take Utf.part cs k hlt
            have hno := all_stop Utf.part cs k hlt
            obtain ⟨b2, o2, ha2, hc2⟩ := HAT.out k hlt _ (b0 _)
            rw [HALL.out, Bool.true_and] at hst
            generalize cs[k] = d at *
            cases hb3 : Utf.part d
            · rw [hb3] at hq
              have HQ := hid hq
              have HN := hid (hno hb3)
              clear hq hst hno hb3
              go_wp2_with (go_at_call 52; refine (HQ.out _).mono ?_; rintro e w2 ⟨rfl, rfl⟩)
              go_ret
              exact ⟨by rw [HS.out, HN.out]; rfl, hb⟩
            · rw [hb3] at hq hst
              have HQ := hid hq
              have HN := hid hst
              clear hq hst hno hb3
              go_wp2_with (go_at_call 52; refine (HQ.out _).mono ?_; rintro e w2 ⟨rfl, rfl⟩)
              go_round
              case rel => exact ⟨k + 1, by go_num, by omega, HN.out⟩
              case measure => have := HN1.out; simp [intOf]; omega
          · have : cs.take k = cs := List.take_of_length_le (by omega)
            rw [this] at HALL
            clear this
            have hlt2 : ¬ ((k : Int) + 1 < (n : Int)) := by have := HN1.out; omega
            go_wp2
            go_ret
            exact ⟨by rw [HS.out, HALL.out]; rfl, hb⟩

end Go.Proofs.YthodmdfbahkflaaGreatDoor.Names
namespace Go.Proofs.YthodmdfbahkflaaGreatDoor.Names
open Go Go.Proofs.YthodmdfbahkflaaGreatDoor Go.Proofs.YthodmdfbahkflaaGreatDoor.Utf Go.RowKit
set_option maxRecDepth 100000

/-- A byte of a text, as the walk reads it. -/
theorem text_idx (l : List UInt8) (k : Nat) (hk : k < l.length) (h : k < (text l).size) : ((text l)[k]'h).toNat = (l[k]'hk).toNat := rfl
theorem text_at {l : List UInt8} {k : Nat} {x : UInt8} (hx : l[k]? = some x) (h : k < (text l).size) : ((text l)[k]'h).toNat = x.toNat := by
  have hk := (List.getElem?_eq_some_iff.1 hx).1
  rw [List.getElem?_eq_getElem hk] at hx
  rw [text_idx l k hk h, Option.some.inj hx]

set_option maxHeartbeats 2000000 in
theorem RSplit_any (l : List UInt8) (hl : l.length ≤ 4000000) (w : World) :
    Calls Tryz.prog 17 #[.string (text l)] w fun e w' => e = .returned (.tuple #[.string (text (splitA l)), .string (text (splitB l)), .bool (splitO l).isSome]) ∧ Below w.heap.size w w' := by
  have HSZ := hid (text_size l)
  go_enter Tryz.func17, Tryz.ntmps17
  go_wp2_with fail
  go_loop [5] (fun i => ∃ k : Nat, i = .int .i64 k ∧ k ≤ l.length ∧ ∀ j, j < k → l[j]? ≠ some 58) (fun i => l.length - (intOf i).toNat)
  case atStart => exact ⟨0, rfl, by omega, fun j hj => absurd hj (Nat.not_lt_zero _)⟩
  case round =>
    obtain ⟨k, rfl, hk, hno⟩ := hrel
    have HNO := hid hno
    by_cases hlt : k < l.length
    · have hps : k < (text l).size := by rw [HSZ.out]; exact hlt
      obtain ⟨x, hq⟩ : ∃ x, l[k]? = some x := ⟨_, List.getElem?_eq_getElem hlt⟩
      have hid1 := text_at hq hps
      by_cases hx : x = 58
      · have hxx : ((((text l)[k]'hps).toNat : Int) == 58) = true := by rw [hid1, hx]; rfl
        have hf : firstAt 58 l = some k := firstAt_is (by rw [hq, hx]) hno
        have hs : splitO l = if plainB (l.take k) && plainB (l.drop (k + 1)) then some (l.take k, l.drop (k + 1)) else none := by unfold splitO; rw [hf]
        have P1 := hid (fun w => RPlain_any (l.take k) (by simp; omega) w)
        have P2 := hid (fun w => RPlain_any (l.drop (k + 1)) (by simp; omega) w)
        have h2 : (k : Int) ≤ ((text l).size : Int) := by omega
        have h4 : (k : Int) + 1 ≤ ((text l).size : Int) := by omega
        have ex0 := text_zero l k
        have ex1 := text_extract l (k + 1)
        cases hp : plainB (l.take k)
        · rw [hp] at P1 hs
          have S := hid (show splitO l = none by rw [hs]; rfl)
          clear hs hf hx hid1 hq hno hp
          go_wp2_with (go_at_call 31; refine (P1.out _).mono ?_; rintro e w1 ⟨rfl, hb1⟩)
          go_ret3
          exact ⟨by unfold splitA splitB; rw [S.out]; rfl, hb1⟩
        · rw [hp] at P1 hs
          cases hp2 : plainB (l.drop (k + 1))
          · rw [hp2] at P2 hs
            have S := hid (show splitO l = none by rw [hs]; rfl)
            clear hs hf hx hid1 hq hno hp hp2
            go_wp2_with fail
            refine (P1.out _).mono ?_
            rintro e w1 ⟨rfl, hb1⟩
            go_wp2_with (go_at_call 31; refine (P2.out _).mono ?_; rintro e w2 ⟨rfl, hb2⟩)
            go_ret3
            exact ⟨by unfold splitA splitB; rw [S.out]; rfl, bt hb1 hb2⟩
          · rw [hp2] at P2 hs
            have S := hid (show splitO l = some (l.take k, l.drop (k + 1)) by rw [hs]; rfl)
            clear hs hf hx hid1 hq hno hp hp2
            go_wp2_with fail
            refine (P1.out _).mono ?_
            rintro e w1 ⟨rfl, hb1⟩
            go_wp2_with (go_at_call 31; refine (P2.out _).mono ?_; rintro e w2 ⟨rfl, hb2⟩)
            go_ret3
            exact ⟨by unfold splitA splitB; rw [S.out]; rfl, bt hb1 hb2⟩
      · have hxx : ((((text l)[k]'hps).toNat : Int) == 58) = false := by
          rw [hid1, beq_eq_false_iff_ne]
          intro e
          exact hx (UInt8.toNat_inj.1 (by have : (58 : UInt8).toNat = 58 := rfl; omega))
        have HX := hid hx
        have HQ := hid hq
        clear hx hid1 hq hno
        go_wp2
        go_round
        case rel =>
          refine ⟨k + 1, by go_num, by omega, fun j hj => ?_⟩
          rcases Nat.lt_or_ge j k with h | h
          · exact HNO.out j h
          · obtain rfl : j = k := by omega
            rw [HQ.out]
            intro e; exact HX.out (Option.some.inj e)
        case measure => simp [intOf]; omega
    · have hf : firstAt 58 l = none := by
        refine firstAt_no fun j => ?_
        rcases Nat.lt_or_ge j k with h | h
        · exact hno j h
        · rw [List.getElem?_eq_none (by omega)]; simp
      have hps : ¬ (k : Int) < ((text l).size : Int) := by rw [HSZ.out]; omega
      have P := hid (fun w => RPlain_any l hl w)
      have hs : splitO l = if plainB l then some ([], l) else none := by unfold splitO; rw [hf]
      cases hp : plainB l
      · rw [hp] at P hs
        have S := hid (show splitO l = none by rw [hs]; rfl)
        clear hs hf hno hp
        go_wp2_with (go_at_call 31; refine (P.out _).mono ?_; rintro e w1 ⟨rfl, hb1⟩)
        go_ret3
        exact ⟨by unfold splitA splitB; rw [S.out]; rfl, hb1⟩
      · rw [hp] at P hs
        have S := hid (show splitO l = some ([], l) by rw [hs]; rfl)
        clear hs hf hno hp
        go_wp2_with (go_at_call 31; refine (P.out _).mono ?_; rintro e w1 ⟨rfl, hb1⟩)
        go_ret3
        exact ⟨by unfold splitA splitB; rw [S.out]; rfl, hb1⟩
end Go.Proofs.YthodmdfbahkflaaGreatDoor.Names
namespace Go.Proofs.YthodmdfbahkflaaGreatDoor.Tok
open Go Go.Proofs.YthodmdfbahkflaaGreatDoor Go.Proofs.YthodmdfbahkflaaGreatDoor.Utf Go.Proofs.YthodmdfbahkflaaGreatDoor.Names Go.Proofs.YthodmdfbahkflaaGreatDoor.Ent Go.RowKit
set_option maxRecDepth 100000

set_option maxHeartbeats 1000000
end Go.Proofs.YthodmdfbahkflaaGreatDoor.Tok
namespace Go.Proofs.YthodmdfbahkflaaGreatDoor.Tok
open Go Go.Proofs.YthodmdfbahkflaaGreatDoor Go.Proofs.YthodmdfbahkflaaGreatDoor.Utf Go.Proofs.YthodmdfbahkflaaGreatDoor.Names Go.Proofs.YthodmdfbahkflaaGreatDoor.Ent Go.RowKit
set_option maxRecDepth 100000

/-- Bytes, or none, and what is wrong. -/
def outB : Res (List UInt8) → List UInt8 × Nat
  | .bad _ e => ([], e)
  | .ok b _ => (b, 0)
theorem outB_bad (i e : Nat) : outB (.bad i e) = ([], e) := rfl
theorem outB_ok (b : List UInt8) (n : Nat) : outB (.ok b n) = (b, 0) := rfl
def bV (x : List UInt8 × Nat) : Value := .tuple #[.string (text x.1), .int .i64 x.2]
/-- The names that are ahead, the last one first. -/
def seenOf (l : List Pr) (i : Nat) : List (List UInt8) := ((l.take i).map Pr.name).reverse
theorem seenOf_zero (l : List Pr) : seenOf l 0 = [] := by simp [seenOf]
theorem seenOf_succ (l : List Pr) (i : Nat) (h : i < l.length) : seenOf l (i + 1) = l[i].name :: seenOf l i := by
  unfold seenOf
  rw [List.take_succ_eq_append_getElem h, List.map_append, List.reverse_append]
  rfl
theorem seenOf_no {l : List Pr} {i : Nat} (hi : i ≤ l.length) {x : List UInt8} (h : ∀ j (hj : j < l.length), j < i → l[j].name ≠ x) : (seenOf l i).contains x = false := by
  cases hc : (seenOf l i).contains x with
  | false => rfl
  | true =>
    exfalso
    have hm : x ∈ seenOf l i := by simpa using hc
    unfold seenOf at hm
    rw [List.mem_reverse, List.mem_map] at hm
    obtain ⟨p, hp, rfl⟩ := hm
    obtain ⟨j, hj, rfl⟩ := List.mem_iff_getElem.1 hp
    rw [List.length_take] at hj
    rw [List.getElem_take] at h
    exact h j (by omega) (by omega) rfl
theorem seenOf_yes {l : List Pr} {i j : Nat} (hj : j < l.length) (hji : j < i) {x : List UInt8} (h : l[j].name = x) : (seenOf l i).contains x = true := by
  have hm : x ∈ seenOf l i := by
    unfold seenOf
    rw [List.mem_reverse, List.mem_map]
    refine ⟨l[j], ?_, h⟩
    rw [List.mem_iff_getElem]
    exact ⟨j, by rw [List.length_take]; omega, by rw [List.getElem_take]⟩
  simpa using hm

theorem attr1_6 {seen : List (List UInt8)} {p : Pr} (h : splitO p.name = none) : attr1 seen p = .bad 0 6 := by unfold attr1; rw [if_pos h]
theorem attr1_8 {seen : List (List UInt8)} {p : Pr} (h : splitO p.name ≠ none) (h2 : seen.contains p.name = true) : attr1 seen p = .bad 0 8 := by unfold attr1; rw [if_neg h, if_pos h2]
theorem attr1_4 {seen : List (List UInt8)} {p : Pr} (h : splitO p.name ≠ none) (h2 : seen.contains p.name = false) (h3 : check p.value ≠ p.value.length) : attr1 seen p = .bad 0 4 := by
  unfold attr1; rw [if_neg h, if_neg (by rw [h2]; decide), if_pos h3]
theorem attr1_0 {seen : List (List UInt8)} {p : Pr} (h : splitO p.name ≠ none) (h2 : seen.contains p.name = false) (h3 : check p.value = p.value.length) : attr1 seen p = .ok (32 :: (p.name ++ (61 :: 34 :: (esc true p.value ++ [34])))) 0 := by
  unfold attr1; rw [if_neg h, if_neg (by rw [h2]; decide), if_neg (fun c => c h3)]
theorem isSome_no {α : Type} {o : Option α} (h : o = none) : o.isSome = false := by rw [h]; rfl
theorem isSome_yes {α : Type} {o : Option α} (h : o ≠ none) : o.isSome = true := by cases o with | none => exact absurd rfl h | some x => rfl

set_option maxHeartbeats 4000000 in
theorem RAttrs_any (l : List Pr) (v : Value) (w : World) (hp : Prs w v l) (hl : l.length ≤ 2000000) (hn : ∀ p ∈ l, p.name.length ≤ 2000000 ∧ p.value.length ≤ 2000000) (hc : costA l ≤ 140737488355328) :
    Calls Tryz.prog 18 #[v] w fun e w' => e = .returned (bV (outB (attrsW [] l))) ∧ Below w.heap.size w w' := by
  have plen := fun X => hp.len (P := Tryz.prog) 43 3 73 undPs X
  obtain ⟨A, hA⟩ : ∃ A, attrsW [] l = A := ⟨_, rfl⟩
  rw [hA]
  have HA := hid hA
  have HP := hid hp
  have HN := hid hn
  clear hA hp hn
  go_enter Tryz.func18, Tryz.ntmps18
  go_wp2_with fail
  go_loopg [5, 4] l.length (fun g iv sv X => ∃ (i : Nat) (b : List UInt8), iv = .int .i64 i ∧ sv = .string (text b) ∧ i + g = l.length ∧ b.length + costA (l.drop i) ≤ costA l ∧ Hid (A = joinW b (attrsW (seenOf l i) (l.drop i))) ∧ Below w.heap.size w X)
  case atStart => exact ⟨0, [], rfl, rfl, by omega, by simp, hid (by rw [joinW_nil, seenOf_zero, List.drop_zero]; exact HA.out.symm), b0 w⟩
  case round =>
    rename World => X
    obtain ⟨i, b, rfl, rfl, hig, hcb, HE, hb⟩ := hrel
    have HB := hid hb
    clear hb
    by_cases hi : i < l.length
    · have he := HE.out
      rw [List.drop_eq_getElem_cons hi] at he hcb
      obtain ⟨bp, op, ip, c0, c1, c2⟩ := (HP.out.below HB.out (Nat.le_refl _)).at (P := Tryz.prog) i hi 43 73 undPs sizP
      have hnm := HN.out l[i] (List.getElem_mem hi)
      have HSU := hid (seenOf_succ l i hi)
      generalize hpi : l[i] = p at *
      have HPI := hid hpi
      clear hpi
      rw [show costA (p :: l.drop (i + 1)) = p.name.length + 6 * p.value.length + 4 + costA (l.drop (i + 1)) from rfl] at hcb
      have SP := fun X => RSplit_any p.name (by have := hnm.1; omega) X
      by_cases h1 : splitO p.name = none
      · rw [isSome_no h1] at SP
        have E := hid (show A = .bad 0 6 by rw [he, (attr1_bad (attr1_6 h1) _).1]; rfl)
        have SS := hid SP
        clear he h1 SP hnm hcb
        go_wp2_with fail
        refine (SS.out _).mono ?_
        rintro e w1 ⟨rfl, hb1⟩
        have HB1 := hid (HB.out.trans (hb1.mono HB.out.size))
        clear hb1
        go_wp2
        go_ret2
        exact ⟨by rw [E.out]; rfl, HB1.out⟩
      rw [isSome_yes h1] at SP
      have SS := hid SP
      have H1 := hid h1
      have HEE := hid he
      clear SP h1 c0 c2 he
      go_wp2_with fail
      refine (SS.out _).mono ?_
      rintro e w1 ⟨rfl, hb1⟩
      have HB1 := hid (HB.out.trans (hb1.mono HB.out.size))
      clear hb1 c1 ip
      generalize hG : gk = G at *
      clear hG
      go_wp2_with fail
      go_loopg [9] i (fun g kv Y => ∃ k : Nat, kv = .int .i64 k ∧ k + g = i ∧ Hid (∀ j (hj : j < l.length), j < k → l[j].name ≠ p.name) ∧ Below w.heap.size w Y)
      case atStart => exact ⟨0, rfl, by omega, hid (fun j _ h => absurd h (by omega)), HB1.out⟩
      case round =>
        rename World => Y
        obtain ⟨k, rfl, hkg, HK, hb2⟩ := hrel
        have HB2 := hid hb2
        clear hb2
        obtain ⟨bq, oq, iq, d0, d1, d2⟩ := (HP.out.below HB2.out (Nat.le_refl _)).at (P := Tryz.prog) i hi 43 73 undPs sizP
        rw [HPI.out] at d0 d1 d2
        by_cases hk : k < i
        · have hk2 : k < l.length := by omega
          obtain ⟨br, or, ir, e0, e1, e2⟩ := (HP.out.below HB2.out (Nat.le_refl _)).at (P := Tryz.prog) k hk2 43 73 undPs sizP
          have HNX := hid (fun (h : l[k].name ≠ p.name) j (hj : j < l.length) (h3 : j < k + 1) => (by
            by_cases e : j = k
            · subst e; exact h
            · exact HK.out j hj (by omega) : l[j].name ≠ p.name))
          have HYE := hid (fun (h : l[k].name = p.name) => seenOf_yes hk2 hk h)
          generalize l[k] = q at *
          have tq := text_eq q.name p.name
          by_cases h2 : q.name = p.name
          · rw [decide_eq_true h2] at tq
            have E := hid (show A = .bad 0 8 by rw [HEE.out, (attr1_bad (attr1_8 H1.out (HYE.out h2)) _).1]; rfl)
            clear h2 d0 d2 e0 e2 HNX HYE
            go_wp2_with fail
            go_quiet (fail)
            go_wp2
            go_ret2
            exact ⟨by rw [E.out]; rfl, below_drewN HB2.out _⟩
          · rw [decide_eq_false h2] at tq
            have R := hid (HNX.out h2)
            clear h2 d0 d2 e0 e2 HNX HYE
            go_wp2_with fail
            go_quiet (fail)
            go_wp2
            go_roundg (gk - 1)
            case measure => omega
            case rel => exact ⟨k + 1, by go_num, by omega, R, below_drewN HB2.out _⟩
        · have hno : (seenOf l i).contains p.name = false := seenOf_no (by omega) (fun j hj hji => HK.out j hj (by omega))
          have ES := fun X => REscape_any true p.value (by have := hnm.2; omega) X
          by_cases h3 : check p.value = p.value.length
          · have e5 : rescV true p.value = .tuple #[.string (text (esc true p.value)), .bool true] := by unfold rescV; rw [if_pos h3]
            rw [e5] at ES
            have hu := attr1_ok (attr1_0 H1.out hno h3) (l.drop (i + 1))
            have hel := esc_len true p.value
            have hE : A = joinW (b ++ (32 :: (p.name ++ (61 :: 34 :: (esc true p.value ++ [34]))))) (attrsW (seenOf l (i + 1)) (l.drop (i + 1))) := by rw [HEE.out, hu.1, joinW_join, HSU.out]
            have hlen2 := hu.2
            generalize esc true p.value = u at *
            have t1 : text b ++ (⟨#[32]⟩ : ByteArray) = text (b ++ [32]) := add_lit' [32] _ _ rfl
            have t2 : text (b ++ [32]) ++ text p.name = text (b ++ [32] ++ p.name) := text_append _ _
            have t3 : text (b ++ [32] ++ p.name) ++ (⟨#[61, 34]⟩ : ByteArray) = text (b ++ [32] ++ p.name ++ [61, 34]) := add_lit' [61, 34] _ _ rfl
            have t4 : text (b ++ [32] ++ p.name ++ [61, 34]) ++ text u = text (b ++ [32] ++ p.name ++ [61, 34] ++ u) := text_append _ _
            have t5 : text (b ++ [32] ++ p.name ++ [61, 34] ++ u) ++ (⟨#[34]⟩ : ByteArray) = text (b ++ [32] ++ p.name ++ [61, 34] ++ u ++ [34]) := add_lit' [34] _ _ rfl
            have z1 : (text b).size + (⟨#[32]⟩ : ByteArray).size ≤ 9223372036854775807 := by rw [text_size, show (⟨#[32]⟩ : ByteArray).size = 1 from rfl]; omega
            have z2 : (text (b ++ [32])).size + (text p.name).size ≤ 9223372036854775807 := by rw [text_size, text_size]; simp; omega
            have z3 : (text (b ++ [32] ++ p.name)).size + (⟨#[61, 34]⟩ : ByteArray).size ≤ 9223372036854775807 := by rw [text_size, show (⟨#[61, 34]⟩ : ByteArray).size = 2 from rfl]; simp; omega
            have z4 : (text (b ++ [32] ++ p.name ++ [61, 34])).size + (text u).size ≤ 9223372036854775807 := by rw [text_size, text_size]; simp; omega
            have z5 : (text (b ++ [32] ++ p.name ++ [61, 34] ++ u)).size + (⟨#[34]⟩ : ByteArray).size ≤ 9223372036854775807 := by rw [text_size, show (⟨#[34]⟩ : ByteArray).size = 1 from rfl]; simp; omega
            have hall : b ++ [32] ++ p.name ++ [61, 34] ++ u ++ [34] = b ++ (32 :: (p.name ++ (61 :: 34 :: (u ++ [34])))) := by simp
            have E := hid (show A = joinW (b ++ [32] ++ p.name ++ [61, 34] ++ u ++ [34]) (attrsW (seenOf l (i + 1)) (l.drop (i + 1))) by rw [hall]; exact hE)
            have hll : (b ++ [32] ++ p.name ++ [61, 34] ++ u ++ [34]).length + costA (l.drop (i + 1)) ≤ costA l := by simp; omega
            generalize b ++ [32] ++ p.name ++ [61, 34] ++ u ++ [34] = s5 at *
            generalize b ++ [32] ++ p.name ++ [61, 34] ++ u = s4 at *
            generalize b ++ [32] ++ p.name ++ [61, 34] = s3 at *
            generalize b ++ [32] ++ p.name = s2 at *
            generalize b ++ [32] = s1 at *
            have EE := hid ES
            clear hE hu hel hlen2 hall ES e5 h3 hno d0 hcb
            go_wp2_with fail
            refine (EE.out _).mono ?_
            rintro e w2 ⟨rfl, hb3⟩
            have HB3 := hid (HB2.out.trans (hb3.mono HB2.out.size))
            clear hb3 d1 d2 iq
            obtain ⟨bq, oq, iq, d0, d1, d2⟩ := (HP.out.below HB3.out (Nat.le_refl _)).at (P := Tryz.prog) i hi 43 73 undPs sizP
            rw [HPI.out] at d0 d1 d2
            go_wp2
            go_roundg (G - 1)
            case measure => omega
            case rel => exact ⟨i + 1, s5, by go_num, rfl, by omega, hll, E, HB3.out⟩
          · have e5 : rescV true p.value = .tuple #[.string (text []), .bool false] := by unfold rescV; rw [if_neg h3]
            rw [e5] at ES
            have E := hid (show A = .bad 0 4 by rw [HEE.out, (attr1_bad (attr1_4 H1.out hno h3) _).1]; rfl)
            have EE := hid ES
            clear ES e5 h3 hno d0 d1 hcb
            go_wp2_with fail
            refine (EE.out _).mono ?_
            rintro e w2 ⟨rfl, hb3⟩
            have HB3 := hid (HB2.out.trans (hb3.mono HB2.out.size))
            clear hb3
            go_wp2
            go_ret2
            exact ⟨by rw [E.out]; rfl, HB3.out⟩
    · have hz : i = l.length := by omega
      have he := HE.out
      rw [hz, List.drop_length] at he
      have E := hid (show A = .ok b 0 by rw [he]; simp [joinW, attrsW])
      clear he
      go_wp2
      go_ret2
      exact ⟨by rw [E.out]; rfl, HB.out⟩
end Go.Proofs.YthodmdfbahkflaaGreatDoor.Tok
namespace Go.Proofs.YthodmdfbahkflaaGreatDoor.Tok
open Go Go.Proofs.YthodmdfbahkflaaGreatDoor Go.Proofs.YthodmdfbahkflaaGreatDoor.Utf Go.Proofs.YthodmdfbahkflaaGreatDoor.Names Go.Proofs.YthodmdfbahkflaaGreatDoor.Ent Go.RowKit
set_option maxRecDepth 100000

theorem newKept {w w1 : World} {o : Obj} (hb : Below (w.alloc o).heap.size (w.alloc o) w1) : w1.heap[w.heap.size]? = some o := (hb.block _ (by simp)).trans (heap_alloc_new w o)
theorem newBelow {w w1 : World} {o : Obj} (hb : Below (w.alloc o).heap.size (w.alloc o) w1) : Below w.heap.size w w1 := (ba (b0 w) o).trans (hb.mono (by simp))
section
variable {kd pl : Int} {s : List UInt8} {ps : List Pr} {av : Value} {ah : Int} {w : World}
theorem tokW_range (h : kd < 0 ∨ 3 < kd) : tokW ah ⟨kd, pl, s, ps⟩ = .bad 0 2 := by unfold tokW; rw [if_pos h]
theorem tokW_text2 (h : s = [] ∨ ps ≠ [] ∨ ah = 3) : tokW ah ⟨3, pl, s, ps⟩ = .bad 0 2 := by unfold tokW; dsimp only; rw [if_neg (by omega), if_pos rfl, if_pos h]
theorem tokW_text4 (h : ¬ (s = [] ∨ ps ≠ [] ∨ ah = 3)) (hc : check s ≠ s.length) : tokW ah ⟨3, pl, s, ps⟩ = .bad 0 4 := by unfold tokW; dsimp only; rw [if_neg (by omega), if_pos rfl, if_neg h, if_pos hc]
theorem tokW_text (h : ¬ (s = [] ∨ ps ≠ [] ∨ ah = 3)) (hc : check s = s.length) : tokW ah ⟨3, pl, s, ps⟩ = .ok (esc false s) 0 := by unfold tokW; dsimp only; rw [if_neg (by omega), if_pos rfl, if_neg h, if_neg (fun c => c hc)]
theorem tokW_name (h : ¬ (kd < 0 ∨ 3 < kd)) (h3 : kd ≠ 3) (hs : splitO s = none) : tokW ah ⟨kd, pl, s, ps⟩ = .bad 0 6 := by unfold tokW; rw [if_neg h, if_neg h3, if_pos hs]
theorem tokW_close2 (hs : splitO s ≠ none) (hp : ps ≠ []) : tokW ah ⟨1, pl, s, ps⟩ = .bad 0 2 := by unfold tokW; dsimp only; rw [if_neg (by omega), if_neg (by omega), if_neg hs, if_pos rfl, if_pos hp]
theorem tokW_close (hs : splitO s ≠ none) (hp : ps = []) : tokW ah ⟨1, pl, s, ps⟩ = .ok (60 :: 47 :: (s ++ [62])) 0 := by unfold tokW; dsimp only; rw [if_neg (by omega), if_neg (by omega), if_neg hs, if_pos rfl, if_neg (fun c => c hp)]
theorem tokW_open (h : kd = 0 ∨ kd = 2) (hs : splitO s ≠ none) : tokW ah ⟨kd, pl, s, ps⟩ = (match attrsW [] ps with | .bad i e => .bad i e | .ok a _ => .ok (60 :: (s ++ (a ++ (if kd = 2 then [47, 62] else [62])))) 0) := by
  unfold tokW
  dsimp only
  rw [if_neg (by omega), if_neg (by omega), if_neg hs, if_neg (by omega)]
  cases attrsW [] ps <;> rfl

set_option maxHeartbeats 4000000
/-- What the document's Write is told of here. -/
def FitR (t : Tok) : Prop := t.s.length ≤ 2000000 ∧ t.attrs.length ≤ 2000000 ∧ ∀ p ∈ t.attrs, p.name.length ≤ 2000000 ∧ p.value.length ≤ 2000000
theorem RTok_any (hp : Prs w av ps) (hs : s.length ≤ 2000000) (hl : ps.length ≤ 2000000) (hn : ∀ p ∈ ps, p.name.length ≤ 2000000 ∧ p.value.length ≤ 2000000) (hc : costA ps ≤ 140737488355328) :
    Calls Tryz.prog 10 #[.agg #[.int .i64 kd, .int .i64 pl, .string (text s), av], .int .i64 ah] w fun e w' => e = .returned (bV (outB (tokW ah ⟨kd, pl, s, ps⟩))) ∧ Below w.heap.size w w' := by
  obtain ⟨ao, an, ac, rfl⟩ : ∃ o n c, av = .slice o n c := by obtain ⟨⟨a, c, h, _⟩, _⟩ := hp; exact ⟨_, _, _, h⟩
  have plen := fun X => hp.len (P := Tryz.prog) 43 3 73 undPs X
  have HP := hid hp
  have HB0 := hid (ba (b0 w) (.cells #[.int .i64 kd, .int .i64 pl, .string (text s), .slice ao an ac] 45))
  clear hp
  by_cases k1 : kd < 0
  · rw [tokW_range (.inl k1), outB_bad]
    go_enter Tryz.func10, Tryz.ntmps10
    go_wp2
    go_ret2
    exact ⟨rfl, HB0.out⟩
  by_cases k2 : 3 < kd
  · rw [tokW_range (.inr k2), outB_bad]
    go_enter Tryz.func10, Tryz.ntmps10
    go_wp2
    go_ret2
    exact ⟨rfl, HB0.out⟩
  by_cases k3 : kd = 3
  · subst k3
    by_cases hs0 : s = []
    · rw [tokW_text2 (.inl hs0), outB_bad]
      have q : ((text s).toList == []) = true := list_yes hs0
      clear hs0
      go_enter Tryz.func10, Tryz.ntmps10
      go_wp2
      go_ret2
      exact ⟨rfl, HB0.out⟩
    have q : ((text s).toList == []) = false := list_no hs0
    by_cases hps : ps = []
    · have hz : ps.length = 0 := by rw [hps]; rfl
      simp only [hz] at plen
      by_cases ha3 : ah = 3
      · rw [tokW_text2 (.inr (.inr ha3)), outB_bad]
        have q3 : (ah == 3) = true := by rw [beq_iff_eq]; exact ha3
        clear hs0 hps hz ha3
        go_enter Tryz.func10, Tryz.ntmps10
        go_wp2
        go_ret2
        exact ⟨rfl, HB0.out⟩
      have q3 : (ah == 3) = false := by rw [beq_eq_false_iff_ne]; exact ha3
      have hno : ¬ (s = [] ∨ ps ≠ [] ∨ ah = 3) := by
        rintro (h | h | h)
        · exact hs0 h
        · exact h hps
        · exact ha3 h
      have ES := fun X => REscape_any false s (by omega) X
      by_cases hck : check s = s.length
      · rw [tokW_text hno hck, outB_ok]
        have e5 : rescV false s = .tuple #[.string (text (esc false s)), .bool true] := by unfold rescV; rw [if_pos hck]
        rw [e5] at ES
        have EE := hid ES
        generalize esc false s = u at *
        clear ES e5 hck hno hs0 hps ha3 hz
        go_enter Tryz.func10, Tryz.ntmps10
        go_wp2_with fail
        refine (EE.out _).mono ?_
        rintro e w1 ⟨rfl, hb1⟩
        have HB1 := hid (newBelow hb1)
        clear hb1
        go_wp2
        go_ret2
        exact ⟨rfl, HB1.out⟩
      · rw [tokW_text4 hno hck, outB_bad]
        have e5 : rescV false s = .tuple #[.string (text []), .bool false] := by unfold rescV; rw [if_neg hck]
        rw [e5] at ES
        have EE := hid ES
        clear ES e5 hck hno hs0 hps ha3 hz
        go_enter Tryz.func10, Tryz.ntmps10
        go_wp2_with fail
        refine (EE.out _).mono ?_
        rintro e w1 ⟨rfl, hb1⟩
        have HB1 := hid (newBelow hb1)
        clear hb1
        go_wp2
        go_ret2
        exact ⟨rfl, HB1.out⟩
    · rw [tokW_text2 (.inr (.inl hps)), outB_bad]
      have hpos : 0 < ps.length := List.length_pos_iff.2 hps
      clear hs0
      go_enter Tryz.func10, Tryz.ntmps10
      go_wp2
      go_ret2
      exact ⟨rfl, HB0.out⟩
  have hrange : ¬ (kd < 0 ∨ 3 < kd) := by omega
  have q3 : (kd == 3) = false := by rw [beq_eq_false_iff_ne]; exact k3
  have SP := fun X => RSplit_any s (by omega) X
  by_cases h1 : splitO s = none
  · rw [tokW_name hrange k3 h1, outB_bad]
    rw [isSome_no h1] at SP
    have SS := hid SP
    clear h1 SP hrange
    go_enter Tryz.func10, Tryz.ntmps10
    go_wp2_with fail
    refine (SS.out _).mono ?_
    rintro e w1 ⟨rfl, hb1⟩
    have HB1 := hid (newBelow hb1)
    clear hb1
    go_wp2
    go_ret2
    exact ⟨rfl, HB1.out⟩
  rw [isSome_yes h1] at SP
  have SS := hid SP
  clear SP
  by_cases k4 : kd = 1
  · subst k4
    by_cases hps : ps = []
    · have hz : ps.length = 0 := by rw [hps]; rfl
      simp only [hz] at plen
      rw [tokW_close h1 hps, outB_ok]
      have a1 : (⟨#[60, 47]⟩ : ByteArray) ++ text s = text (60 :: 47 :: s) := lit_add' [60, 47] _ _ rfl
      have a2 : text (60 :: 47 :: s) ++ (⟨#[62]⟩ : ByteArray) = text (60 :: 47 :: (s ++ [62])) := add_lit' [62] _ _ rfl
      have z1 : (⟨#[60, 47]⟩ : ByteArray).size + (text s).size ≤ 9223372036854775807 := by rw [text_size, show (⟨#[60, 47]⟩ : ByteArray).size = 2 from rfl]; omega
      have z2 : (text (60 :: 47 :: s)).size + (⟨#[62]⟩ : ByteArray).size ≤ 9223372036854775807 := by rw [text_size, show (⟨#[62]⟩ : ByteArray).size = 1 from rfl]; simp; omega
      generalize 60 :: 47 :: (s ++ [62]) = u2 at *
      generalize 60 :: 47 :: s = u1 at *
      clear h1 hps hz hrange k1 k2 k3
      go_enter Tryz.func10, Tryz.ntmps10
      go_wp2_with fail
      refine (SS.out _).mono ?_
      rintro e w1 ⟨rfl, hb1⟩
      have HB1 := hid (newBelow hb1)
      have p0 := newKept hb1
      have c0 : w1.cell? ⟨w.heap.size, 0, none⟩ = some (.int .i64 1) := by rw [Lib.cell_of_heap p0]; rfl
      have c2 : w1.cell? ⟨w.heap.size, 2, none⟩ = some (.string (text s)) := by rw [Lib.cell_of_heap p0]; rfl
      have c3 : w1.cell? ⟨w.heap.size, 3, none⟩ = some (.slice ao an ac) := by rw [Lib.cell_of_heap p0]; rfl
      clear hb1 p0
      go_wp2
      go_ret2
      exact ⟨rfl, HB1.out⟩
    · rw [tokW_close2 h1 hps, outB_bad]
      have hpos : 0 < ps.length := List.length_pos_iff.2 hps
      clear h1 hrange k1 k2 k3
      go_enter Tryz.func10, Tryz.ntmps10
      go_wp2_with fail
      refine (SS.out _).mono ?_
      rintro e w1 ⟨rfl, hb1⟩
      have HB1 := hid (newBelow hb1)
      have p0 := newKept hb1
      have c0 : w1.cell? ⟨w.heap.size, 0, none⟩ = some (.int .i64 1) := by rw [Lib.cell_of_heap p0]; rfl
      have c3 : w1.cell? ⟨w.heap.size, 3, none⟩ = some (.slice ao an ac) := by rw [Lib.cell_of_heap p0]; rfl
      clear hb1 p0
      go_wp2
      go_ret2
      exact ⟨rfl, HB1.out⟩
  have q4 : (kd == 1) = false := by rw [beq_eq_false_iff_ne]; exact k4
  have hk : kd = 0 ∨ kd = 2 := by omega
  rw [tokW_open hk h1]
  have AT := hid (fun (X : World) (hX : Below w.heap.size w X) => RAttrs_any ps (.slice ao an ac) X (HP.out.below hX (Nat.le_refl _)) hl hn hc)
  cases ha : attrsW [] ps with
  | bad i x =>
    rw [ha, outB_bad] at AT
    unfold bV at AT
    have hx := attrsW_bad _ _ _ _ ha
    have hx2 : ((x : Int) != 0) = true := by rw [bne_iff_ne]; omega
    dsimp only
    rw [outB_bad]
    clear ha hx hk h1 hrange
    go_enter Tryz.func10, Tryz.ntmps10
    go_wp2_with fail
    refine (SS.out _).mono ?_
    rintro e w1 ⟨rfl, hb1⟩
    have HB1 := hid (newBelow hb1)
    have p0 := newKept hb1
    have c0 : w1.cell? ⟨w.heap.size, 0, none⟩ = some (.int .i64 kd) := by rw [Lib.cell_of_heap p0]; rfl
    have c3 : w1.cell? ⟨w.heap.size, 3, none⟩ = some (.slice ao an ac) := by rw [Lib.cell_of_heap p0]; rfl
    clear hb1 p0
    go_wp2_with fail
    refine (AT.out _ HB1.out).mono ?_
    rintro e w2 ⟨rfl, hb2⟩
    have HB2 := hid (bt HB1.out hb2)
    clear hb2
    go_wp2
    go_ret2
    exact ⟨rfl, HB2.out⟩
  | ok a m =>
    rw [ha, outB_ok] at AT
    unfold bV at AT
    have hal := attrsW_len _ _ _ _ ha
    dsimp only at AT ⊢
    rw [outB_ok]
    have a1 : (⟨#[60]⟩ : ByteArray) ++ text s = text (60 :: s) := lit_add' [60] _ _ rfl
    have a2 : text (60 :: s) ++ text a = text (60 :: s ++ a) := text_append _ _
    have z1 : (⟨#[60]⟩ : ByteArray).size + (text s).size ≤ 9223372036854775807 := by rw [text_size, show (⟨#[60]⟩ : ByteArray).size = 1 from rfl]; omega
    have z2 : (text (60 :: s)).size + (text a).size ≤ 9223372036854775807 := by rw [text_size, text_size]; simp; omega
    rcases hk with rfl | rfl
    · have a3 : text (60 :: s ++ a) ++ (⟨#[62]⟩ : ByteArray) = text (60 :: s ++ a ++ [62]) := add_lit' [62] _ _ rfl
      have z3 : (text (60 :: s ++ a)).size + (⟨#[62]⟩ : ByteArray).size ≤ 9223372036854775807 := by rw [text_size, show (⟨#[62]⟩ : ByteArray).size = 1 from rfl]; simp; omega
      rw [if_neg (by decide), show 60 :: (s ++ (a ++ [62])) = 60 :: s ++ a ++ [62] from by simp]
      generalize 60 :: s ++ a ++ [62] = u3 at *
      generalize 60 :: s ++ a = u2 at *
      generalize 60 :: s = u1 at *
      clear ha hal h1 hrange k1 k2 k3 k4 q3 q4
      go_enter Tryz.func10, Tryz.ntmps10
      go_wp2_with fail
      refine (SS.out _).mono ?_
      rintro e w1 ⟨rfl, hb1⟩
      have HB1 := hid (newBelow hb1)
      have p0 := newKept hb1
      have c0 : w1.cell? ⟨w.heap.size, 0, none⟩ = some (.int .i64 0) := by rw [Lib.cell_of_heap p0]; rfl
      have c3 : w1.cell? ⟨w.heap.size, 3, none⟩ = some (.slice ao an ac) := by rw [Lib.cell_of_heap p0]; rfl
      have HP0 := hid p0
      clear hb1 p0
      go_wp2_with fail
      refine (AT.out _ HB1.out).mono ?_
      rintro e w2 ⟨rfl, hb2⟩
      have HB2 := hid (bt HB1.out hb2)
      have p2 := (hb2.block _ (lt_of_some HP0.out)).trans HP0.out
      have d0 : w2.cell? ⟨w.heap.size, 0, none⟩ = some (.int .i64 0) := by rw [Lib.cell_of_heap p2]; rfl
      have d2 : w2.cell? ⟨w.heap.size, 2, none⟩ = some (.string (text s)) := by rw [Lib.cell_of_heap p2]; rfl
      clear hb2 p2 c0 c3
      go_wp2
      go_ret2
      exact ⟨rfl, HB2.out⟩
    · have a3 : text (60 :: s ++ a) ++ (⟨#[47, 62]⟩ : ByteArray) = text (60 :: s ++ a ++ [47, 62]) := add_lit' [47, 62] _ _ rfl
      have z3 : (text (60 :: s ++ a)).size + (⟨#[47, 62]⟩ : ByteArray).size ≤ 9223372036854775807 := by rw [text_size, show (⟨#[47, 62]⟩ : ByteArray).size = 2 from rfl]; simp; omega
      rw [if_pos rfl, show 60 :: (s ++ (a ++ [47, 62])) = 60 :: s ++ a ++ [47, 62] from by simp]
      generalize 60 :: s ++ a ++ [47, 62] = u3 at *
      generalize 60 :: s ++ a = u2 at *
      generalize 60 :: s = u1 at *
      clear ha hal h1 hrange k1 k2 k3 k4 q3 q4
      go_enter Tryz.func10, Tryz.ntmps10
      go_wp2_with fail
      refine (SS.out _).mono ?_
      rintro e w1 ⟨rfl, hb1⟩
      have HB1 := hid (newBelow hb1)
      have p0 := newKept hb1
      have c0 : w1.cell? ⟨w.heap.size, 0, none⟩ = some (.int .i64 2) := by rw [Lib.cell_of_heap p0]; rfl
      have c3 : w1.cell? ⟨w.heap.size, 3, none⟩ = some (.slice ao an ac) := by rw [Lib.cell_of_heap p0]; rfl
      have HP0 := hid p0
      clear hb1 p0
      go_wp2_with fail
      refine (AT.out _ HB1.out).mono ?_
      rintro e w2 ⟨rfl, hb2⟩
      have HB2 := hid (bt HB1.out hb2)
      have p2 := (hb2.block _ (lt_of_some HP0.out)).trans HP0.out
      have d0 : w2.cell? ⟨w.heap.size, 0, none⟩ = some (.int .i64 2) := by rw [Lib.cell_of_heap p2]; rfl
      have d2 : w2.cell? ⟨w.heap.size, 2, none⟩ = some (.string (text s)) := by rw [Lib.cell_of_heap p2]; rfl
      clear hb2 p2 c0 c3
      go_wp2
      go_ret2
      exact ⟨rfl, HB2.out⟩
end
section
variable {w : World} {v : Value} {ts : List Tok}
set_option maxHeartbeats 4000000
theorem RWrite_any (hT : Toks w v ts) (hn : ts.length ≤ 1000000) (hf : ∀ t ∈ ts, FitR t) (hc : costT ts ≤ 140737488355328) :
    Calls Tryz.prog 5 #[v] w fun e w' => (∃ bv, e = .returned (.tuple #[bv, .int .i64 (outW (wr (-1) ts)).2.1, .int .i64 (outW (wr (-1) ts)).2.2]) ∧ Bytes w' bv (outW (wr (-1) ts)).1) ∧ Below w.heap.size w w' := by
  have hlen := fun X => hT.len (P := Tryz.prog) 22 3 45 underTw X
  obtain ⟨A, hA⟩ : ∃ A, wr (-1) ts = A := ⟨_, rfl⟩
  rw [hA]
  have HA := hid hA
  have HT := hid hT
  have HF := hid hf
  clear hA hT hf
  go_enter Tryz.func5, Tryz.ntmps5
  go_wp2_with fail
  go_loopg [7, 5, 6] ts.length (fun g iv sv av X => ∃ (i : Nat) (b : List UInt8) (ah : Int), iv = .int .i64 i ∧ sv = .string (text b) ∧ av = .int .i64 ah ∧ i + g = ts.length ∧ b.length + costT (ts.drop i) ≤ costT ts ∧ Hid (A = joinR b i (Tok.wr ah (ts.drop i))) ∧ Below w.heap.size w X)
  case atStart => exact ⟨0, [], -1, rfl, rfl, rfl, by omega, by simp, hid (by rw [joinR_nil, List.drop_zero]; exact HA.out.symm), b0 w⟩
  case round =>
    rename World => X
    obtain ⟨i, b, ah, rfl, rfl, rfl, hig, hcb, HE, hb⟩ := hrel
    have HB := hid hb
    clear hb
    by_cases hi : i < ts.length
    · obtain ⟨bp, op, a, ip, k0, k1, k2, k3, pa⟩ := (HT.out.below HB.out (Nat.le_refl _)).at (P := Tryz.prog) i hi 22 45 underTw sizTw
      obtain ⟨ao, an, ac, rfl⟩ : ∃ ao an ac, a = .slice ao an ac := by obtain ⟨⟨x, c, h, _⟩, _⟩ := pa; exact ⟨_, _, _, h⟩
      have hft := HF.out ts[i] (List.getElem_mem hi)
      have he := HE.out
      rw [List.drop_eq_getElem_cons hi] at he hcb
      generalize hti : ts[i] = t at *
      have HTI := hid hti
      clear hti
      rw [show costT (t :: ts.drop (i + 1)) = 6 * t.s.length + costA t.attrs + 10 + costT (ts.drop (i + 1)) from rfl] at hcb
      obtain ⟨kd, pl, s, ps⟩ := t
      dsimp only at *
      have WT := RTok_any (ah := ah) (kd := kd) (pl := pl) pa hft.1 hft.2.1 hft.2.2 (by omega)
      cases h1 : tokW ah ⟨kd, pl, s, ps⟩ with
      | bad j x =>
        rw [h1, outB_bad] at WT
        unfold bV at WT
        have e2 := tokW_bad h1
        rw [wr_bad h1] at he
        have hx2 : ((x : Int) != 0) = true := by rw [bne_iff_ne]; omega
        have E := hid (show A = .bad i x by rw [he]; rfl)
        have WTT := hid WT
        clear he hft h1 WT pa HE
        go_wp2_with fail
        refine WTT.out.mono ?_
        rintro e w4 ⟨rfl, hb4⟩
        have HB4 := hid (HB.out.trans (hb4.mono HB.out.size))
        clear hb4
        go_wp2
        go_ret3
        refine ⟨⟨.slice none 0 0, ?_, ?_⟩, HB4.out⟩
        · rw [E.out]; rfl
        · rw [E.out]; exact Row.nil 1 _
      | ok u n =>
        rw [h1, outB_ok] at WT
        unfold bV at WT
        dsimp only at WT
        have e2 := tokW_len h1
        rw [wr_ok h1, joinR_join] at he
        dsimp only at he e2
        have t1 : text b ++ text u = text (b ++ u) := text_append _ _
        have z1 : (text b).size + (text u).size ≤ 9223372036854775807 := by rw [text_size, text_size]; omega
        have hll : (b ++ u).length + costT (ts.drop (i + 1)) ≤ costT ts := by rw [List.length_append]; omega
        generalize b ++ u = b1 at *
        have E := hid he
        have WTT := hid WT
        clear he hft h1 WT pa HE
        go_wp2_with fail
        refine WTT.out.mono ?_
        rintro e w4 ⟨rfl, hb4⟩
        have HB4 := hid (HB.out.trans (hb4.mono HB.out.size))
        clear hb4 k0 k1 k2 k3 ip
        obtain ⟨bp, op, a, ip, k0, k1, k2, k3, pa⟩ := (HT.out.below HB4.out (Nat.le_refl _)).at (P := Tryz.prog) i hi 22 45 underTw sizTw
        rw [HTI.out] at k0
        clear k1 k2 k3 pa
        go_wp2
        go_roundg (gk - 1)
        case measure => omega
        case rel => exact ⟨i + 1, b1, kd, by go_num, rfl, rfl, by omega, hll, E, HB4.out⟩
    · have hz : i = ts.length := by omega
      have he := HE.out
      rw [hz, List.drop_length] at he
      have E := hid (show A = .ok b 0 by rw [he]; simp [joinR, wr])
      have hbl : b.length ≤ 281474976710656 := by omega
      obtain ⟨vb, w1, hcv, hvb, hb1, _⟩ := conv_at (P := Tryz.prog) b hbl 9 24 5 under9 underB under8 X
      have HVB := hid (hvb w1 rfl)
      have HB1 := hid (HB.out.trans (hb1.mono HB.out.size))
      clear he HE hvb hb1
      go_wp2
      go_ret3
      refine ⟨⟨vb, ?_, ?_⟩, HB1.out⟩
      · rw [E.out]; rfl
      · rw [E.out]; exact HVB.out
end
end Go.Proofs.YthodmdfbahkflaaGreatDoor.Tok
namespace Go.Proofs.YthodmdfbahkflaaGreatDoor.Tok
open Go Go.Proofs.YthodmdfbahkflaaGreatDoor Go.Proofs.YthodmdfbahkflaaGreatDoor.Utf Go.Proofs.YthodmdfbahkflaaGreatDoor.Names Go.Proofs.YthodmdfbahkflaaGreatDoor.Ent Go.RowKit
set_option maxRecDepth 100000

end Go.Proofs.YthodmdfbahkflaaGreatDoor.Tok
