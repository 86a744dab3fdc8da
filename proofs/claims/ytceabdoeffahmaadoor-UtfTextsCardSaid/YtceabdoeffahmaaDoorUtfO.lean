/- Layer 1: the walk of the statement UtfTexts. -/
import Derived.Test.YtceabdoeffahmaaDoorUtfN
set_option linter.unusedVariables false
set_option linter.unusedSimpArgs false
namespace Go.Proofs.YtceabdoeffahmaaDoor
open Go Go.RowKit
namespace Utf
open Go.Proofs.YtceabdoeffahmaaDoor
set_option maxRecDepth 100000

theorem underN : Tryd.prog.underlying 38 = some (.slice 3) := Tryd.underlying38
theorem sizeI (W : World) : (sizeOf 3).run Tryd.prog W = .ok 1 W := Tryd.sizeOf3 W
theorem infoI : (Tryd.prog.info? 3).map (fun i => (i.zero, i.size, i.bytes)) = some (some (.int .i64 0), 1, 8) := by kernel_rfl

/-- The bytes of characters, one behind the other. -/
def encs (cs : List Int) : List UInt8 := cs.flatMap enc
/-- Those of the numbers that may be characters. -/
def fines (l : List Int) : List Int := l.filter fine
theorem encs_snoc (cs : List Int) (c : Int) : encs (cs ++ [c]) = encs cs ++ enc c := by simp [encs]
theorem encs_len : ∀ (cs : List Int), (encs cs).length ≤ 4 * cs.length
  | [] => by simp [encs]
  | c :: r => by
    have := encs_len r
    have h := enc_len c
    simp [encs] at this ⊢
    omega
theorem fines_snoc (l : List Int) (k : Nat) (hk : k < l.length) : fines (l.take (k + 1)) = if fine l[k] = true then fines (l.take k) ++ [l[k]] else fines (l.take k) := by
  rw [List.take_succ_eq_append_getElem hk, fines, List.filter_append]
  by_cases h : fine l[k] = true <;> simp [h, fines]
theorem fines_le (l : List Int) (k : Nat) : (fines (l.take k)).length ≤ k := Nat.le_trans (List.length_filter_le _ _) (by simp; omega)

theorem fines_fine (l : List Int) : ∀ c ∈ fines l, fine c = true := by
  intro c hc
  exact (List.mem_filter.1 hc).2
theorem nat_of_fine {c : Int} (h : fine c = true) : ∃ d : Nat, c = d := by
  have := (fine_iff c).1 h
  exact Int.eq_ofNat_of_zero_le (by omega)
theorem check_encs : ∀ (cs : List Int), (∀ c ∈ cs, fine c = true) → ∀ m, check (encs cs ++ m) = (encs cs).length + check m
  | [], _, m => by simp [encs]
  | c :: r, h, m => by
    have hc := h c (by simp)
    obtain ⟨d, rfl⟩ := nat_of_fine hc
    have ih := check_encs r (fun c hc => h c (by simp [hc])) m
    have e : encs ((d : Int) :: r) ++ m = enc (d : Int) ++ (encs r ++ m) := by simp [encs]
    rw [e, check_enc d hc, ih]
    simp [encs]; omega
theorem rune_encs (cs : List Int) (h : ∀ c ∈ cs, fine c = true) (k : Nat) (hk : k < cs.length) : ∃ d : Nat, cs[k] = (d : Int) ∧ runeR (encs cs) ((encs (cs.take k)).length : Int) = (d, (enc (d : Int)).length, 0) ∧ (encs (cs.take (k + 1))).length = (encs (cs.take k)).length + (enc (d : Int)).length := by
  have hf := h cs[k] (List.getElem_mem hk)
  obtain ⟨d, hd⟩ := nat_of_fine hf
  rw [hd] at hf
  have he := enc_len (d : Int)
  have e : encs cs = encs (cs.take k) ++ (enc (d : Int) ++ encs (cs.drop (k + 1))) := by
    have : cs = cs.take k ++ cs[k] :: cs.drop (k + 1) := by rw [← List.drop_eq_getElem_cons hk, List.take_append_drop]
    conv => lhs; rw [this]
    simp [encs, hd]
  refine ⟨d, hd, ?_, ?_⟩
  · unfold runeR
    have hl : (encs cs).length = (encs (cs.take k)).length + ((enc (d : Int)).length + (encs (cs.drop (k + 1))).length) := by rw [e]; simp
    rw [if_neg (by omega), Int.toNat_natCast]
    have hdr : (encs cs).drop (encs (cs.take k)).length = enc (d : Int) ++ encs (cs.drop (k + 1)) := by rw [e, List.drop_left]
    rw [hdr, rune_enc d hf, if_neg (by show (enc (d : Int)).length ≠ 0; omega)]
  · rw [List.take_succ_eq_append_getElem hk, encs_snoc, List.length_append, hd]

theorem or_all : ((List.range 256).all fun x => decide (248 ≤ bits .or .u8 248 (x : Int)) && decide (bits .or .u8 248 (x : Int) < 256)) = true := by decide +kernel
theorem or_high (x : Int) (h : 0 ≤ x ∧ x ≤ 255) : ∃ y : Nat, bits .or .u8 248 x = (y : Int) ∧ 248 ≤ y ∧ y < 256 := by
  obtain ⟨k, rfl⟩ := Int.eq_ofNat_of_zero_le h.1
  have h1 := List.all_eq_true.1 or_all k (List.mem_range.2 (by omega))
  simp only [Bool.and_eq_true, decide_eq_true_eq] at h1
  obtain ⟨y, hy⟩ := Int.eq_ofNat_of_zero_le (by omega : 0 ≤ bits .or .u8 248 (k : Int))
  exact ⟨y, hy, by omega, by omega⟩
theorem check_high (y : Nat) (h : 248 ≤ y) (h' : y < 256) (b : UInt8) : check [UInt8.ofNat y, b] = 0 := by
  refine check_stop ?_
  have hn : nth [UInt8.ofNat y, b] 0 = y := by simp [nth]; omega
  unfold rune runeN
  rw [hn, if_neg (by simp), if_neg (by omega), if_neg (by omega), if_neg (by omega), if_neg (by omega), if_neg (by omega)]

set_option maxHeartbeats 4000000 in
theorem UtfTexts_walk (v : Value) (l : List Int) (bit : Int) (w : World) (hT : Tabs w) (hv : Nums w v l) (hbit : 0 ≤ bit ∧ bit ≤ 255) :
    Calls Tryd.prog 6 #[v, .int .u8 bit] w fun e w' => e = .returned (.bool true) ∧ Below w.heap.size w w' := by
  obtain ⟨i0, hi, hz0, hz1, hz2⟩ := info_parts info8
  obtain ⟨i1, hi', hz0', hz1', hz2'⟩ := info_parts infoI
  have hlen := fun W => hv.len (P := Tryd.prog) 38 3 3 underN W
  obtain ⟨v', _, _, a3, hv'⟩ := hv.sub 0 (min l.length 200) (by omega) (by omega) 38 3 underN sizeI
  have a4 := a3 rfl
  rw [List.drop_zero, Nat.sub_zero] at hv'
  have hm2 : min (l.length : Int) 200 = ((min l.length 200 : Nat) : Int) := by omega
  have hzl : (l.take (min l.length 200)).length ≤ 200 := by simp; omega
  generalize l.take (min l.length 200) = zs at *
  have hlen' := fun W => hv'.len (P := Tryd.prog) 38 3 3 underN W
  have HV := hid hv'
  have HT := hid hT
  clear hv hT hv' a3
  go_enter Tryd.func6, Tryd.ntmps6
  go_wp2_with fail
  go_loopw [5, 6, 28] (fun a o i wr => ∃ (k : Nat), i = .int .i64 k ∧ k ≤ zs.length ∧ wr.ownsRow w.heap.size 5 1 a (encs (fines (zs.take k))).length (cellsOf (encs (fines (zs.take k)))) ∧
      wr.ownsRow w.heap.size 3 1 o (fines (zs.take k)).length (numsOf (fines (zs.take k))) ∧ Below w.heap.size w wr) (fun _ _ i _ => zs.length - (intOf i).toNat)
  case atStart => exact ⟨0, rfl, by omega, World.ownsRow_nil _ _ _ _, World.ownsRow_nil _ _ _ _, Below.refl _ _⟩
  case round =>
    obtain ⟨k, rfl, hk, hA, hO, hbr⟩ := hrel
    by_cases hlt : k < zs.length
    · obtain ⟨b, o, ha, hc⟩ := (HV.out.below hbr (Nat.le_refl _)).at k hlt 38 3 underN sizeI
      have hsn := fines_snoc zs k hlt
      obtain ⟨c, hcc⟩ : ∃ c, zs[k] = c := ⟨_, rfl⟩
      rw [hcc] at hc hsn
      clear hcc
      have hfl := fines_le zs k
      have hel := encs_len (fines (zs.take k))
      cases hf : fine c
      · have HP := hid (fun W => Put_no c hf W)
        rw [hf] at hsn
        have HS := hid hsn
        have HA := hid hA
        have HO := hid hO
        have HB := hid hbr
        clear hf hsn hA hO hbr
        go_wp2_with (go_at_call 14; refine (HP.out _).mono ?_; rintro e w3 ⟨rfl, rfl⟩)
        go_roundw
        case rel => exact ⟨k + 1, by go_num, by omega, by rw [HS.out]; exact HA.out, by rw [HS.out]; exact HO.out, HB.out⟩
        case measure => simp [intOf]; omega
      · have HP := hid (fun W => Put_yes c hf W)
        rw [hf, if_pos rfl] at hsn
        have he := enc_len c
        have HS := hid hsn
        have HA := hid hA
        have HO := hid hO
        have HB := hid hbr
        clear hf hsn hA hO hbr
        generalize hcs : fines (zs.take k) = cs at *
        clear hcs
        go_wp2_with fail
        refine (HP.out _).mono ?_
        rintro e w1 ⟨v1, rfl, hown1, hb1⟩
        have HV1 := hid (Bytes.ofOwns hown1 (by omega))
        have HA1 := hid (owns_later HA.out hb1)
        have HO1 := hid (owns_later HO.out hb1)
        clear hown1
        go_wp2_with (at_builtin; refine wpList_append_row rfl _ _ 22 rfl w.heap.size 5 i0 (.int .u8 0) 1 1 underB hi hz0 hz1 hz2 rfl (by decide) _ _ _ rfl HA1.out _ _ _ rfl HV1.out (cellsOf_one _) ?c1 ?c2 ?c3 ?_)
        case c1 => omega
        case c2 => unfold maxLen; omega
        case c3 => exact (bt HB.out hb1).size
        intro v2 w2 hown2 hg2
        have hb2 := grown_below (bt HB.out hb1) HA1.out (Nat.le_refl _) hg2
        have HO2 := hid (HO1.out.kept hg2 (owns_apart (by decide) HO1.out HA1.out))
        have HA2 := hid hown2
        clear hown2 hg2
        go_wp2_with (at_builtin; refine wpList_append_row rfl _ _ 38 rfl w.heap.size 3 i1 (.int .i64 0) 1 8 underN hi' hz0' hz1' hz2' rfl (by decide) _ _ _ rfl (HO2.out.alloc _) _ 1 [.int .i64 c] rfl (Row.ofBuild w2 #[.int .i64 c] _ 1 rfl (by omega)) (numsOf_one [c]) ?d1 ?d2 ?d3 ?_)
        case d1 => omega
        case d2 => unfold maxLen; omega
        case d3 => have := hb2.size; simp; omega
        intro v3 w3 hown3 hg3
        have hb3 := grown_below (ba hb2 (.cells #[.int .i64 c] 3)) (HO2.out.alloc _) (Nat.le_refl _) hg3
        have HA3 := hid ((HA2.out.alloc (.cells #[.int .i64 c] 3)).kept hg3 (owns_apart (by decide) (HA2.out.alloc (.cells #[.int .i64 c] 3)) (HO2.out.alloc (.cells #[.int .i64 c] 3))))
        have HO3 := hid hown3
        clear hown3 hg3
        go_wp2_with fail
        go_roundw
        case rel =>
          refine ⟨k + 1, by go_num, by omega, ?_, ?_, hb3⟩
          · rw [HS.out, encs_snoc, List.length_append, cellsOf_append]; exact HA3.out
          · rw [HS.out, List.length_append, numsOf_append]; exact HO3.out
        case measure => simp [intOf]; omega
    · rename World => W0
      have hkk : k = zs.length := by omega
      subst hkk
      rw [List.take_length] at hA hO
      have hcf := fines_fine zs
      have hcl := fines_le zs zs.length
      rw [List.take_length] at hcl
      have hel := encs_len (fines zs)
      generalize fines zs = cs at *
      have hck := check_encs cs hcf []
      rw [List.append_nil, check_nil, Nat.add_zero] at hck
      have hcE := checkE_ok hck
      have HRU := hid (rune_encs cs hcf)
      have hch := fun y => check_encs cs hcf [UInt8.ofNat y, 97]
      have HCH := hid hch
      have HK := hid hck
      have HE := hid hcE
      have HA := hid hA
      have HVA := hid (Bytes.ofOwns hA (by omega))
      have HVO := hid (Nums.ofOwns hO (by omega))
      have hlenA := fun W => HVA.out.len (P := Tryd.prog) 22 3 5 underB W
      have hlenO := fun W => HVO.out.len (P := Tryd.prog) 38 3 3 underN W
      have HB := hid hbr
      obtain ⟨y, hy, hy1, hy2⟩ := or_high bit hbit
      have HCY := hid (check_high y hy1 hy2 97)
      clear hcf hck hcE hch hA hO hbr hlen hlen' a4
      go_wp2_with fail
      refine (Check_eq _ _ _ HVA.out _ _ HK.out HE.out).mono ?_
      rintro e w1 ⟨rfl, hb1⟩
      have hb01 := bt HB.out hb1
      go_wp2_with fail
      go_loopw [13, 62] (fun p i w2 => ∃ k : Nat, i = .int .i64 k ∧ k ≤ cs.length ∧ p = .int .i64 (encs (cs.take k)).length ∧ Below W0.heap.size W0 w2) (fun _ i _ => cs.length - (intOf i).toNat)
      case atStart => exact ⟨0, rfl, by omega, by simp [encs], hb1⟩
      case round =>
        obtain ⟨k, rfl, hk2, rfl, hbx⟩ := hrel
        by_cases hlt2 : k < cs.length
        · obtain ⟨b, o, ha, hc⟩ := (HVO.out.below hbx (Nat.le_refl _)).at k hlt2 38 3 underN sizeI
          obtain ⟨d, hd, hru, hnx⟩ := HRU.out k hlt2
          rw [hd] at hc
          have he := enc_len (d : Int)
          have hte := encs_len (cs.take k)
          have htk : (cs.take k).length ≤ k := by simp; omega
          have HR := hid (Rune_eq _ _ _ _ (HT.out.below (bt HB.out hbx) (Nat.le_refl _)) (HVA.out.below hbx (Nat.le_refl _)) _ _ _ hru)
          have HN := hid hnx
          have HX := hid hbx
          clear hd hru hnx hbx
          generalize (encs (cs.take k)).length = p at *
          generalize (enc (d : Int)).length = q at *
          go_wp2_with fail
          refine HR.out.mono ?_
          rintro e w3 ⟨rfl, hb3⟩
          go_wp2_with fail
          go_roundw
          case rel => exact ⟨k + 1, by go_num, by omega, by rw [HN.out]; go_num, bt HX.out hb3⟩
          case measure => simp [intOf]; omega
        · have hkk : k = cs.length := by omega
          rw [hkk, List.take_length]
          have hb03 := bt HB.out hbx
          have HX := hid hbx
          have HVB := hid (HVA.out.below hbx (Nat.le_refl _))
          have hsz := hb03.size
          clear hbx
          go_wp2_with (at_builtin; refine wpList_append_row rfl _ _ 22 rfl w.heap.size 5 i0 (.int .u8 0) 1 1 underB hi hz0 hz1 hz2 rfl (by decide) _ _ _ rfl (owns_empty wr _ 1 _ hsz) _ _ _ rfl (HVB.out.alloc _) (cellsOf_one _) ?c1 ?c2 ?c3 ?_)
          case c1 => omega
          case c2 => unfold maxLen; omega
          case c3 => simp; omega
          intro v4 w4 hown4 hg4
          have hb4 := grown_below (ba hb03 _) (owns_empty wr 5 1 _ hsz) (Nat.le_refl _) hg4
          clear hg4
          go_wp2_with (at_builtin; refine wpList_append_row rfl _ _ 22 rfl w.heap.size 5 i0 (.int .u8 0) 1 1 underB hi hz0 hz1 hz2 rfl (by decide) _ _ _ rfl (hown4.alloc _) _ 2 [.int .u8 y, .int .u8 97] rfl (Row.ofBuild w4 #[.int .u8 y, .int .u8 97] _ 2 rfl (by omega)) ?d0 ?d1 ?d2 ?d3 ?_)
          case d0 =>
            intro u hu
            simp at hu
            rcases hu with rfl | rfl <;> rfl
          case d1 => omega
          case d2 => unfold maxLen; omega
          case d3 => have := hb4.size; simp; omega
          intro v5 w5 hown5 hg5
          have hb5 := grown_below (ba hb4 (.cells #[.int .u8 y, .int .u8 97] 5)) (hown4.alloc _) (Nat.le_refl _) hg5
          have hcl2 : ([Value.int .u8 y, .int .u8 97] : List Value) = cellsOf [UInt8.ofNat y, 97] := by simp [cellsOf]; omega
          rw [hcl2] at hown5
          have HJ := hid (Bytes_join (l := [UInt8.ofNat y, 97]) hown5 (by simp; omega))
          have hk9 : check (encs cs ++ [UInt8.ofNat y, 97]) = (encs cs).length := by rw [HCH.out, HCY.out]; rfl
          have HK9 := hid hk9
          have HE9 := hid (checkE_no (l := encs cs ++ [UInt8.ofNat y, 97]) (by rw [hk9]; simp))
          clear hown4 hown5 hg5 hcl2 hk9
          go_wp2_with fail
          refine (Check_eq _ _ _ HJ.out _ _ HK9.out HE9.out).mono ?_
          rintro e w6 ⟨rfl, hb6⟩
          go_wp2_with fail
          refine (alive_any _ (HT.out.below (bt hb5 hb6) (Nat.le_refl _))).mono ?_
          rintro e w7 ⟨rfl, hb7⟩
          go_wp2_with fail
          go_ret
          exact ⟨rfl, bt (bt hb5 hb6) hb7⟩
end Utf
end Go.Proofs.YtceabdoeffahmaaDoor
