/- Layer 2: contracts of the document's own answers: the keywords. -/
import Derived.Test.YthggoohchjifnaaDoorNamesR
set_option linter.unusedVariables false
set_option linter.unusedSimpArgs false
namespace Go.Proofs.YthggoohchjifnaaDoor.Names
open Go Go.Proofs.YthggoohchjifnaaDoor Go.Proofs.YthggoohchjifnaaDoor.Utf Go.RowKit
set_option maxRecDepth 100000

theorem underS : Tryd.prog.underlying 22 = some (.slice 9) := Tryd.underlying22
theorem sizeS (W : World) : (sizeOf 9).run Tryd.prog W = .ok 1 W := Tryd.sizeOf9 W

theorem RAll_any (w : World) : Calls Tryd.prog 71 #[] w fun e w' => ∃ v, e = .returned v ∧ Strs w' v keys ∧ Below w.heap.size w w' := by
  go_enter Tryd.func71, Tryd.ntmps71
  go_wp2
  go_ret
  refine ⟨_, rfl, ?_, ba (b0 w) _⟩
  exact Row.ofBuild w _ _ 17 rfl (by omega)

theorem text_beq (a b : List UInt8) : ((text a).toList == (text b).toList) = decide (a = b) := by
  rw [text_list, text_list, Bool.eq_iff_iff]; simp

set_option maxHeartbeats 1000000 in
theorem RKeyword_any (l : List UInt8) (w : World) :
    Calls Tryd.prog 51 #[.string (text l)] w fun e w' => e = .returned (.bool (keyB l)) ∧ Below w.heap.size w w' := by
  go_enter Tryd.func51, Tryd.ntmps51
  go_wp2_with (go_at_call 71; refine (RAll_any _).mono ?_; rintro e w1 ⟨v, rfl, hv, hb⟩)
  have hlen := fun W => hv.len (P := Tryd.prog) 22 3 9 underS W
  have hk17 : keys.length = 17 := rfl
  rw [hk17] at hlen
  have HV := hid hv
  clear hv
  go_loop [4] (fun i => ∃ k : Nat, i = .int .i64 k ∧ k ≤ 17 ∧ ∀ j, j < k → keys[j]? ≠ some l) (fun i => 17 - (intOf i).toNat)
  case atStart => exact ⟨0, rfl, by omega, fun j hj => absurd hj (Nat.not_lt_zero _)⟩
  case round =>
    obtain ⟨k, rfl, hk, hno⟩ := hrel
    have HNO := hid hno
    clear hno
    by_cases hlt : k < 17
    · obtain ⟨b, o, ha, hc⟩ := HV.out.at k (by rw [hk17]; exact hlt) 22 9 underS sizeS
      have hq : keys[k]? = some keys[k] := List.getElem?_eq_getElem _
      generalize keys[k] = x at *
      have HQ := hid hq
      clear hq
      by_cases hx : x = l
      · have hxx : ((text x).toList == (text l).toList) = true := by rw [text_beq]; simpa using hx
        have HX := hid hx
        clear hx
        go_wp2
        go_ret
        refine ⟨?_, hb⟩
        have : keyB l = true := by
          unfold keyB
          rw [List.contains_iff_mem]
          rw [← HX.out]
          exact List.mem_of_getElem? HQ.out
        rw [this]; rfl
      · have hxx : ((text x).toList == (text l).toList) = false := by rw [text_beq]; simpa using hx
        have HX := hid hx
        clear hx
        go_wp2
        go_round
        case rel =>
          refine ⟨k + 1, by go_num, by omega, fun j hj => ?_⟩
          rcases Nat.lt_or_ge j k with h | h
          · exact HNO.out j h
          · obtain rfl : j = k := by omega
            rw [HQ.out]
            intro e; cases e
            exact HX.out rfl
        case measure => simp [intOf]; omega
    · go_wp2
      go_ret
      refine ⟨?_, hb⟩
      have : keyB l = false := by
        unfold keyB
        rw [← Bool.not_eq_true, List.contains_iff_mem]
        intro hm
        obtain ⟨j, hj, he⟩ := List.mem_iff_getElem.1 hm
        exact HNO.out j (by rw [hk17] at hj; omega) (by rw [List.getElem?_eq_getElem hj, he])
      rw [this]; rfl
/-! the word -/
set_option maxHeartbeats 2000000 in
theorem RWord_no (l : List UInt8) (hl : l.length ≤ 1000000) (hkb : keyB l = false) (w : World) :
    Calls Tryd.prog 34 #[.string (text l)] w fun e w' => e = .returned (.bool (wordyB l)) ∧ Below w.heap.size w w' := by
  have hc := RChars_any l hl w
  have hsp : wordyB l = (shpC Utf.first Utf.next (chars l)) := by
    exact shp_eq _ _ l
  have hK := fun w => RKeyword_any l w
  rw [hkb] at hK
  have HK := hid hK
  clear hK hkb
  cases hch : chars l with
  | none =>
    rw [hch] at hc hsp
    have HC := hid hc
    have HS := hid hsp
    clear hc hch hsp
    go_enter Tryd.func34, Tryd.ntmps34
    go_wp2_with (go_at_call 49; refine HC.out.mono ?_; rintro e w1 ⟨v, rfl, hn, hb⟩)
    go_ret
    exact ⟨by rw [HS.out]; rfl, hb⟩
  | some cs0 =>
    rw [hch] at hc hsp
    have hcl := chars_len l cs0 hch
    cases cs0 with
    | nil =>
      have HC := hid hc
      have HS := hid hsp
      clear hc hch hsp
      go_enter Tryd.func34, Tryd.ntmps34
      go_wp2_with (go_at_call 49; refine HC.out.mono ?_; rintro e w1 ⟨v, rfl, hn, hb⟩; have hlen := fun W => (hn _ rfl).len (P := Tryd.prog) 69 3 3 underN W; rw [ints_len] at hlen; clear hn)
      go_ret
      exact ⟨by rw [HS.out]; rfl, hb⟩
    | cons c cs =>
      have HC := hid hc
      have hF := fun w => RFirst_any (c : Int) w
      clear hc hch
      cases hf : Utf.first c
      · have hs : wordyB l = false := by rw [hsp]; simp [shpC, hf]
        rw [hf] at hF
        have HS := hid hs
        have HF := hid hF
        clear hs hF hf hsp
        go_enter Tryd.func34, Tryd.ntmps34
        go_wp2_with fail
        refine HC.out.mono ?_
        rintro e w1 ⟨v, rfl, hn, hb⟩
        have hv := hn _ rfl
        have hlen := fun W => hv.len (P := Tryd.prog) 69 3 3 underN W
        rw [ints_len] at hlen
        obtain ⟨b, o, ha, hcell⟩ := hv.at 0 (by simp [ints]) 69 3 underN sizeI
        have hcell2 : w1.cell? ⟨b, o, none⟩ = some (.int .i64 c) := hcell
        have ha0 : ∀ q W, (Instr.indexAt 69 v (.int q 0)).run Tryd.prog W = .ok (.pointer (some ⟨b, o, none⟩)) W := ha
        clear ha
        clear hcell hn hv
        have hne : (((c :: cs).length : Int) == 0) = false := by rw [beq_eq_false_iff_ne]; simp; omega
        generalize (c :: cs).length = n at *
        go_wp2_with (go_at_call 50; refine (HF.out _).mono ?_; rintro e w2 ⟨rfl, rfl⟩)
        go_ret
        exact ⟨by rw [HS.out]; rfl, hb⟩
      · rw [hf] at hF
        have HF := hid hF
        have hs : wordyB l = (cs.all (fun c => Utf.next c)) := by rw [hsp]; simp [shpC, hf]
        have HS := hid hs
        clear hs hF hf hsp
        go_enter Tryd.func34, Tryd.ntmps34
        go_wp2_with fail
        refine HC.out.mono ?_
        rintro e w1 ⟨v, rfl, hn, hb⟩
        have hv := hn _ rfl
        have hlen := fun W => hv.len (P := Tryd.prog) 69 3 3 underN W
        rw [ints_len] at hlen
        obtain ⟨b, o, ha, hcell⟩ := hv.at 0 (by simp [ints]) 69 3 underN sizeI
        have hcell2 : w1.cell? ⟨b, o, none⟩ = some (.int .i64 c) := hcell
        have ha0 : ∀ q W, (Instr.indexAt 69 v (.int q 0)).run Tryd.prog W = .ok (.pointer (some ⟨b, o, none⟩)) W := ha
        clear ha
        have hat : ∀ k, (hk : k < cs.length) → ∀ w2, Below w1.heap.size w1 w2 → ∃ b o, (∀ q W, (Instr.indexAt 69 v (.int q ((k : Int) + 1))).run Tryd.prog W = .ok (.pointer (some ⟨b, o, none⟩)) W) ∧ w2.cell? ⟨b, o, none⟩ = some (.int .i64 (cs[k] : Nat)) := by
          intro k hk w2 hb2
          obtain ⟨b, o, h1, h2⟩ := (hv.below hb2 (Nat.le_refl _)).at (k + 1) (by rw [ints_len]; simp; omega) 69 3 underN sizeI
          exact ⟨b, o, h1, by simpa [ints] using h2⟩
        have HAT := hid hat
        clear hcell hn hv hat
        have hne : (((c :: cs).length : Int) == 0) = false := by rw [beq_eq_false_iff_ne]; simp; omega
        obtain ⟨n, hnn⟩ : ∃ n, (c :: cs).length = n := ⟨_, rfl⟩
        have hn1 : n = cs.length + 1 := by rw [← hnn]; simp
        rw [hnn] at hne hlen
        have hcs : cs.length < 1000000 := by have := hcl; simp at this; omega
        have HN1 := hid hn1
        have hnb : n ≤ 1000000 := by omega
        clear hnn hn1
        go_wp2_with (first
          | (go_at_call 50; refine (HF.out _).mono ?_; rintro e w2 ⟨rfl, rfl⟩)
          | (go_at_call 51; refine (HK.out _).mono ?_; rintro e w3 ⟨rfl, hb3⟩))
        go_loop [5] (fun i => ∃ k : Nat, i = .int .i64 ((k : Int) + 1) ∧ k ≤ cs.length ∧ (cs.take k).all (fun c => Utf.next c) = true) (fun i => n - (intOf i).toNat)
        case atStart => exact ⟨0, rfl, by omega, by simp⟩
        case round =>
          obtain ⟨k, rfl, hk, hall⟩ := hrel
          have HALL := hid hall
          clear hall
          by_cases hlt : k < cs.length
          · have hlt2 : (k : Int) + 1 < (n : Int) := by have := HN1.out; omega
            have hq := fun w => RNext_any ((cs[k] : Nat) : Int) w
            have hst := all_take Utf.next cs k hlt
            have hno := all_stop Utf.next cs k hlt
            obtain ⟨b2, o2, ha2, hc2⟩ := HAT.out k hlt _ hb3
            rw [HALL.out, Bool.true_and] at hst
            generalize cs[k] = d at *
            cases hb4 : Utf.next d
            · rw [hb4] at hq
              have HQ := hid hq
              have HN := hid (hno hb4)
              clear hq hst hno hb4
              go_wp2_with (go_at_call 52; refine (HQ.out _).mono ?_; rintro e w2 ⟨rfl, rfl⟩)
              go_ret
              exact ⟨by rw [HS.out, HN.out]; rfl, bt hb hb3⟩
            · rw [hb4] at hq hst
              have HQ := hid hq
              have HN := hid hst
              clear hq hst hno hb4
              go_wp2_with (go_at_call 52; refine (HQ.out _).mono ?_; rintro e w2 ⟨rfl, rfl⟩)
              go_round
              case rel => exact ⟨k + 1, by go_num, by omega, HN.out⟩
              case measure => have := HN1.out; simp [intOf]; omega
          · have : cs.take k = cs := List.take_of_length_le (by omega)
            rw [this] at HALL
            clear this
            have hlt2 : ¬ ((k : Int) + 1 < (n : Int)) := by have := HN1.out; omega
            go_wp2
            go_ret
            exact ⟨by rw [HS.out, HALL.out]; rfl, bt hb hb3⟩

set_option maxHeartbeats 2000000 in
theorem RWord_yes (l : List UInt8) (hl : l.length ≤ 1000000) (hkb : keyB l = true) (w : World) :
    Calls Tryd.prog 34 #[.string (text l)] w fun e w' => e = .returned (.bool false) ∧ Below w.heap.size w w' := by
  have hc := RChars_any l hl w
  have hK := fun w => RKeyword_any l w
  rw [hkb] at hK
  have HK := hid hK
  clear hK hkb
  cases hch : chars l with
  | none =>
    rw [hch] at hc
    have HC := hid hc
    clear hc hch
    go_enter Tryd.func34, Tryd.ntmps34
    go_wp2_with (go_at_call 49; refine HC.out.mono ?_; rintro e w1 ⟨v, rfl, hn, hb⟩)
    go_ret
    exact ⟨rfl, hb⟩
  | some cs0 =>
    rw [hch] at hc
    cases cs0 with
    | nil =>
      have HC := hid hc
      clear hc hch
      go_enter Tryd.func34, Tryd.ntmps34
      go_wp2_with (go_at_call 49; refine HC.out.mono ?_; rintro e w1 ⟨v, rfl, hn, hb⟩; have hlen := fun W => (hn _ rfl).len (P := Tryd.prog) 69 3 3 underN W; rw [ints_len] at hlen; clear hn)
      go_ret
      exact ⟨rfl, hb⟩
    | cons c cs =>
      have HC := hid hc
      have hF := hid (fun w => RFirst_any (c : Int) w)
      clear hc hch
      go_enter Tryd.func34, Tryd.ntmps34
      go_wp2_with fail
      refine HC.out.mono ?_
      rintro e w1 ⟨v, rfl, hn, hb⟩
      have hv := hn _ rfl
      have hlen := fun W => hv.len (P := Tryd.prog) 69 3 3 underN W
      rw [ints_len] at hlen
      obtain ⟨b, o, ha, hcell⟩ := hv.at 0 (by simp [ints]) 69 3 underN sizeI
      have hcell2 : w1.cell? ⟨b, o, none⟩ = some (.int .i64 c) := hcell
      have ha0 : ∀ q W, (Instr.indexAt 69 v (.int q 0)).run Tryd.prog W = .ok (.pointer (some ⟨b, o, none⟩)) W := ha
      clear ha hcell hn hv
      have hne : (((c :: cs).length : Int) == 0) = false := by rw [beq_eq_false_iff_ne]; simp; omega
      generalize (c :: cs).length = n at *
      cases hf : Utf.first c
      · rw [hf] at hF
        clear hf
        go_wp2_with (first
          | (go_at_call 50; refine (hF.out _).mono ?_; rintro e w2 ⟨rfl, rfl⟩)
          | (go_at_call 51; refine (HK.out _).mono ?_; rintro e w3 ⟨rfl, hb3⟩))
        go_ret
        exact ⟨rfl, hb⟩
      · rw [hf] at hF
        clear hf
        go_wp2_with (first
          | (go_at_call 50; refine (hF.out _).mono ?_; rintro e w2 ⟨rfl, rfl⟩)
          | (go_at_call 51; refine (HK.out _).mono ?_; rintro e w3 ⟨rfl, hb3⟩))
        go_ret
        exact ⟨rfl, bt hb hb3⟩

theorem RWord_any (l : List UInt8) (hl : l.length ≤ 1000000) (w : World) :
    Calls Tryd.prog 34 #[.string (text l)] w fun e w' => e = .returned (.bool (wordB l)) ∧ Below w.heap.size w w' := by
  unfold wordB
  cases h : keyB l
  · rw [Bool.not_false, Bool.and_true]; exact RWord_no l hl h w
  · rw [Bool.not_true, Bool.and_false]; exact RWord_yes l hl h w
end Go.Proofs.YthggoohchjifnaaDoor.Names
