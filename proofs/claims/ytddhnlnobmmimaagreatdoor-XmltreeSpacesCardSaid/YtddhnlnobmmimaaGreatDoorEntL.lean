/- Layer 3: contract of the document's own answer: Escape. -/
import Derived.Test.YtddhnlnobmmimaaGreatDoorEntF
import Derived.Test.YtddhnlnobmmimaaGreatDoorEntJ
import Derived.Test.YtddhnlnobmmimaaGreatDoorConv
set_option linter.unusedVariables false
set_option linter.unusedSimpArgs false
namespace Go.Proofs.YtddhnlnobmmimaaGreatDoor.Ent
open Go Go.Proofs.YtddhnlnobmmimaaGreatDoor Go.Proofs.YtddhnlnobmmimaaGreatDoor.Utf Go.Proofs.YtddhnlnobmmimaaGreatDoor.Names Go.RowKit
set_option maxRecDepth 100000

theorem esc_snoc (v : Bool) (l : List UInt8) (k : Nat) (hk : k < l.length) : esc v (l.take (k + 1)) = esc v (l.take k) ++ escB v l[k] := by
  rw [List.take_succ_eq_append_getElem hk, esc_append]; simp [esc]
theorem byte_ne {b : UInt8} {n : UInt8} (h : ¬ b = n) : ¬ b.toNat = n.toNat := fun e => h (UInt8.toNat_inj.1 e)

/-- The document's own answer, as values. -/
def rescV (v : Bool) (l : List UInt8) : Value := if check l = l.length then .tuple #[.string (text (esc v l)), .bool true] else .tuple #[.string (text []), .bool false]

set_option maxHeartbeats 4000000 in
theorem REscape_any (v : Bool) (l : List UInt8) (hl : l.length ≤ 1000000) (w : World) :
    Calls Tryz.prog 45 #[.string (text l), .bool v] w fun e w' => e = .returned (rescV v l) ∧ Below w.heap.size w w' := by
  have s1 : (text l).size = l.length := text_size l
  obtain ⟨vb, w1, hcv, hvb, hb1, _⟩ := conv_at (P := Tryz.prog) l (by omega) 9 24 5 under9 underB under8 w
  have hck := RCheck_any vb l w1 (hvb w1 rfl)
  have HCK := hid hck
  have HB1 := hid hb1
  clear hck hvb hb1
  by_cases hc : check l = l.length
  · have hev : rescV v l = .tuple #[.string (text (esc v l)), .bool true] := by unfold rescV; rw [if_pos hc]
    rw [hc] at HCK
    have HEV := hid hev
    clear hc hev
    go_enter Tryz.func45, Tryz.ntmps45
    go_wp2_with fail
    refine HCK.out.mono ?_
    rintro e w2 ⟨rfl, hb2⟩
    have HB2 := hid (bt HB1.out hb2)
    clear hb2 hcv
    go_wp2_with fail
    go_loop [6, 7] (fun o i => ∃ k : Nat, k ≤ l.length ∧ i = .int .i64 k ∧ o = .string (text (esc v (l.take k)))) (fun _ i => l.length - (intOf i).toNat)
    case atStart => exact ⟨0, by omega, rfl, by simp [esc]; rfl⟩
    case round =>
      obtain ⟨k, hk, rfl, rfl⟩ := hrel
      by_cases hlt : k < l.length
      · have hsn := esc_snoc v l k hlt
        have hone : (text l).extract k (k + 1) = text [l[k]] := text_one l k hlt
        have hol := esc_len v (l.take k)
        rw [List.length_take] at hol
        unfold escB at hsn
        generalize l[k] = b at *
        generalize esc v (l.take k) = out at *
        have HS := hid hsn
        clear hsn
        by_cases h38 : b = 38
        · have q38 := list_yes (show [b] = [38] from by rw [h38])
          have hb38 : b.toNat = 38 := by rw [h38]; rfl
          clear h38
          have hes : esc v (l.take (k + 1)) = out ++ [38, 97, 109, 112, 59] := by rw [HS.out, show escT v b.toNat = some [38, 97, 109, 112, 59] from by unfold escT; rw [hb38]; rfl]; rfl
          have had : text out ++ (⟨#[38, 97, 109, 112, 59]⟩ : ByteArray) = text (out ++ [38, 97, 109, 112, 59]) := by rw [show (⟨#[38, 97, 109, 112, 59]⟩ : ByteArray) = text [38, 97, 109, 112, 59] from rfl, text_append]
          have hadz : (text out).size + (⟨#[38, 97, 109, 112, 59]⟩ : ByteArray).size ≤ 9223372036854775807 := by rw [show (⟨#[38, 97, 109, 112, 59]⟩ : ByteArray) = text [38, 97, 109, 112, 59] from rfl, text_size, text_size]; simp; omega
          have HES := hid hes
          clear hes
          go_wp2_with fail
          all_goals
            go_round
            case rel => exact ⟨k + 1, hlt, by go_num, by rw [HES.out]⟩
            case measure => simp [intOf]; omega
        have q38 := list_no (show ¬ [b] = [38] from fun e => h38 (by simpa using e))
        have z38 : ¬ b.toNat = 38 := byte_ne h38
        clear h38
        by_cases h60 : b = 60
        · have q60 := list_yes (show [b] = [60] from by rw [h60])
          have hb60 : b.toNat = 60 := by rw [h60]; rfl
          clear h60
          have hes : esc v (l.take (k + 1)) = out ++ [38, 108, 116, 59] := by rw [HS.out, show escT v b.toNat = some [38, 108, 116, 59] from by unfold escT; rw [hb60]; rfl]; rfl
          have had : text out ++ (⟨#[38, 108, 116, 59]⟩ : ByteArray) = text (out ++ [38, 108, 116, 59]) := by rw [show (⟨#[38, 108, 116, 59]⟩ : ByteArray) = text [38, 108, 116, 59] from rfl, text_append]
          have hadz : (text out).size + (⟨#[38, 108, 116, 59]⟩ : ByteArray).size ≤ 9223372036854775807 := by rw [show (⟨#[38, 108, 116, 59]⟩ : ByteArray) = text [38, 108, 116, 59] from rfl, text_size, text_size]; simp; omega
          have HES := hid hes
          clear hes
          go_wp2_with fail
          all_goals
            go_round
            case rel => exact ⟨k + 1, hlt, by go_num, by rw [HES.out]⟩
            case measure => simp [intOf]; omega
        have q60 := list_no (show ¬ [b] = [60] from fun e => h60 (by simpa using e))
        have z60 : ¬ b.toNat = 60 := byte_ne h60
        clear h60
        by_cases h62 : b = 62
        · have q62 := list_yes (show [b] = [62] from by rw [h62])
          have hb62 : b.toNat = 62 := by rw [h62]; rfl
          clear h62
          have hes : esc v (l.take (k + 1)) = out ++ [38, 103, 116, 59] := by rw [HS.out, show escT v b.toNat = some [38, 103, 116, 59] from by unfold escT; rw [hb62]; rfl]; rfl
          have had : text out ++ (⟨#[38, 103, 116, 59]⟩ : ByteArray) = text (out ++ [38, 103, 116, 59]) := by rw [show (⟨#[38, 103, 116, 59]⟩ : ByteArray) = text [38, 103, 116, 59] from rfl, text_append]
          have hadz : (text out).size + (⟨#[38, 103, 116, 59]⟩ : ByteArray).size ≤ 9223372036854775807 := by rw [show (⟨#[38, 103, 116, 59]⟩ : ByteArray) = text [38, 103, 116, 59] from rfl, text_size, text_size]; simp; omega
          have HES := hid hes
          clear hes
          go_wp2_with fail
          all_goals
            go_round
            case rel => exact ⟨k + 1, hlt, by go_num, by rw [HES.out]⟩
            case measure => simp [intOf]; omega
        have q62 := list_no (show ¬ [b] = [62] from fun e => h62 (by simpa using e))
        have z62 : ¬ b.toNat = 62 := byte_ne h62
        clear h62
        by_cases h13 : b = 13
        · have q13 := list_yes (show [b] = [13] from by rw [h13])
          have hb13 : b.toNat = 13 := by rw [h13]; rfl
          clear h13
          have hes : esc v (l.take (k + 1)) = out ++ [38, 35, 49, 51, 59] := by rw [HS.out, show escT v b.toNat = some [38, 35, 49, 51, 59] from by unfold escT; rw [hb13]; rfl]; rfl
          have had : text out ++ (⟨#[38, 35, 49, 51, 59]⟩ : ByteArray) = text (out ++ [38, 35, 49, 51, 59]) := by rw [show (⟨#[38, 35, 49, 51, 59]⟩ : ByteArray) = text [38, 35, 49, 51, 59] from rfl, text_append]
          have hadz : (text out).size + (⟨#[38, 35, 49, 51, 59]⟩ : ByteArray).size ≤ 9223372036854775807 := by rw [show (⟨#[38, 35, 49, 51, 59]⟩ : ByteArray) = text [38, 35, 49, 51, 59] from rfl, text_size, text_size]; simp; omega
          have HES := hid hes
          clear hes
          go_wp2_with fail
          all_goals
            go_round
            case rel => exact ⟨k + 1, hlt, by go_num, by rw [HES.out]⟩
            case measure => simp [intOf]; omega
        have q13 := list_no (show ¬ [b] = [13] from fun e => h13 (by simpa using e))
        have z13 : ¬ b.toNat = 13 := byte_ne h13
        clear h13
        by_cases h34 : b = 34
        · have q34 := list_yes (show [b] = [34] from by rw [h34])
          have hb34 : b.toNat = 34 := by rw [h34]; rfl
          clear h34
          cases v
          · have hes : esc false (l.take (k + 1)) = out ++ [b] := by rw [HS.out, show escT false b.toNat = none from by unfold escT; rw [hb34]; rfl]; rfl
            have had : text out ++ text [b] = text (out ++ [b]) := text_append _ _
            have hadz : (text out).size + (text [b]).size ≤ 9223372036854775807 := by rw [text_size, text_size]; simp; omega
            have HES := hid hes
            clear hes
            go_wp2_with fail
            all_goals
              go_round
              case rel => exact ⟨k + 1, hlt, by go_num, by rw [HES.out]⟩
              case measure => simp [intOf]; omega
          · have hes : esc true (l.take (k + 1)) = out ++ [38, 113, 117, 111, 116, 59] := by rw [HS.out, show escT true b.toNat = some [38, 113, 117, 111, 116, 59] from by unfold escT; rw [hb34]; rfl]; rfl
            have had : text out ++ (⟨#[38, 113, 117, 111, 116, 59]⟩ : ByteArray) = text (out ++ [38, 113, 117, 111, 116, 59]) := by rw [show (⟨#[38, 113, 117, 111, 116, 59]⟩ : ByteArray) = text [38, 113, 117, 111, 116, 59] from rfl, text_append]
            have hadz : (text out).size + (⟨#[38, 113, 117, 111, 116, 59]⟩ : ByteArray).size ≤ 9223372036854775807 := by rw [show (⟨#[38, 113, 117, 111, 116, 59]⟩ : ByteArray) = text [38, 113, 117, 111, 116, 59] from rfl, text_size, text_size]; simp; omega
            have HES := hid hes
            clear hes
            go_wp2_with fail
            all_goals
              go_round
              case rel => exact ⟨k + 1, hlt, by go_num, by rw [HES.out]⟩
              case measure => simp [intOf]; omega
        have q34 := list_no (show ¬ [b] = [34] from fun e => h34 (by simpa using e))
        have z34 : ¬ b.toNat = 34 := byte_ne h34
        clear h34
        by_cases h9 : b = 9
        · have q9 := list_yes (show [b] = [9] from by rw [h9])
          have hb9 : b.toNat = 9 := by rw [h9]; rfl
          clear h9
          cases v
          · have hes : esc false (l.take (k + 1)) = out ++ [b] := by rw [HS.out, show escT false b.toNat = none from by unfold escT; rw [hb9]; rfl]; rfl
            have had : text out ++ text [b] = text (out ++ [b]) := text_append _ _
            have hadz : (text out).size + (text [b]).size ≤ 9223372036854775807 := by rw [text_size, text_size]; simp; omega
            have HES := hid hes
            clear hes
            go_wp2_with fail
            all_goals
              go_round
              case rel => exact ⟨k + 1, hlt, by go_num, by rw [HES.out]⟩
              case measure => simp [intOf]; omega
          · have hes : esc true (l.take (k + 1)) = out ++ [38, 35, 57, 59] := by rw [HS.out, show escT true b.toNat = some [38, 35, 57, 59] from by unfold escT; rw [hb9]; rfl]; rfl
            have had : text out ++ (⟨#[38, 35, 57, 59]⟩ : ByteArray) = text (out ++ [38, 35, 57, 59]) := by rw [show (⟨#[38, 35, 57, 59]⟩ : ByteArray) = text [38, 35, 57, 59] from rfl, text_append]
            have hadz : (text out).size + (⟨#[38, 35, 57, 59]⟩ : ByteArray).size ≤ 9223372036854775807 := by rw [show (⟨#[38, 35, 57, 59]⟩ : ByteArray) = text [38, 35, 57, 59] from rfl, text_size, text_size]; simp; omega
            have HES := hid hes
            clear hes
            go_wp2_with fail
            all_goals
              go_round
              case rel => exact ⟨k + 1, hlt, by go_num, by rw [HES.out]⟩
              case measure => simp [intOf]; omega
        have q9 := list_no (show ¬ [b] = [9] from fun e => h9 (by simpa using e))
        have z9 : ¬ b.toNat = 9 := byte_ne h9
        clear h9
        by_cases h10 : b = 10
        · have q10 := list_yes (show [b] = [10] from by rw [h10])
          have hb10 : b.toNat = 10 := by rw [h10]; rfl
          clear h10
          cases v
          · have hes : esc false (l.take (k + 1)) = out ++ [b] := by rw [HS.out, show escT false b.toNat = none from by unfold escT; rw [hb10]; rfl]; rfl
            have had : text out ++ text [b] = text (out ++ [b]) := text_append _ _
            have hadz : (text out).size + (text [b]).size ≤ 9223372036854775807 := by rw [text_size, text_size]; simp; omega
            have HES := hid hes
            clear hes
            go_wp2_with fail
            all_goals
              go_round
              case rel => exact ⟨k + 1, hlt, by go_num, by rw [HES.out]⟩
              case measure => simp [intOf]; omega
          · have hes : esc true (l.take (k + 1)) = out ++ [38, 35, 49, 48, 59] := by rw [HS.out, show escT true b.toNat = some [38, 35, 49, 48, 59] from by unfold escT; rw [hb10]; rfl]; rfl
            have had : text out ++ (⟨#[38, 35, 49, 48, 59]⟩ : ByteArray) = text (out ++ [38, 35, 49, 48, 59]) := by rw [show (⟨#[38, 35, 49, 48, 59]⟩ : ByteArray) = text [38, 35, 49, 48, 59] from rfl, text_append]
            have hadz : (text out).size + (⟨#[38, 35, 49, 48, 59]⟩ : ByteArray).size ≤ 9223372036854775807 := by rw [show (⟨#[38, 35, 49, 48, 59]⟩ : ByteArray) = text [38, 35, 49, 48, 59] from rfl, text_size, text_size]; simp; omega
            have HES := hid hes
            clear hes
            go_wp2_with fail
            all_goals
              go_round
              case rel => exact ⟨k + 1, hlt, by go_num, by rw [HES.out]⟩
              case measure => simp [intOf]; omega
        have q10 := list_no (show ¬ [b] = [10] from fun e => h10 (by simpa using e))
        have z10 : ¬ b.toNat = 10 := byte_ne h10
        clear h10
        have hno : escT v b.toNat = none := by
          unfold escT
          rw [if_neg z38, if_neg z60, if_neg z62, if_neg z13, if_neg (fun e => z34 e.2), if_neg (fun e => z9 e.2), if_neg (fun e => z10 e.2)]
        clear z38 z60 z62 z13 z34 z9 z10
        cases v
        · have hes : esc false (l.take (k + 1)) = out ++ [b] := by rw [HS.out, show escT false b.toNat = none from by exact hno]; rfl
          have had : text out ++ text [b] = text (out ++ [b]) := text_append _ _
          have hadz : (text out).size + (text [b]).size ≤ 9223372036854775807 := by rw [text_size, text_size]; simp; omega
          have HES := hid hes
          clear hes
          go_wp2_with fail
          all_goals
            go_round
            case rel => exact ⟨k + 1, hlt, by go_num, by rw [HES.out]⟩
            case measure => simp [intOf]; omega
        · have hes : esc true (l.take (k + 1)) = out ++ [b] := by rw [HS.out, show escT true b.toNat = none from by exact hno]; rfl
          have had : text out ++ text [b] = text (out ++ [b]) := text_append _ _
          have hadz : (text out).size + (text [b]).size ≤ 9223372036854775807 := by rw [text_size, text_size]; simp; omega
          have HES := hid hes
          clear hes
          go_wp2_with fail
          all_goals
            go_round
            case rel => exact ⟨k + 1, hlt, by go_num, by rw [HES.out]⟩
            case measure => simp [intOf]; omega
      · have hkl : l.take k = l := List.take_of_length_le (by omega)
        rw [hkl]
        go_wp2
        go_ret2
        exact ⟨by rw [HEV.out]; rfl, HB2.out⟩
  · have hev : rescV v l = .tuple #[.string (text []), .bool false] := by unfold rescV; rw [if_neg hc]
    have hcl : ((check l : Int) != (l.length : Int)) = true := by rw [bne_iff_ne]; omega
    have hcl2 : ¬ (check l : Int) = (l.length : Int) := by omega
    have HEV := hid hev
    clear hc hev
    go_enter Tryz.func45, Tryz.ntmps45
    go_wp2_with fail
    refine HCK.out.mono ?_
    rintro e w2 ⟨rfl, hb2⟩
    go_wp2
    go_ret2
    exact ⟨by rw [HEV.out]; rfl, bt HB1.out hb2⟩
end Go.Proofs.YtddhnlnobmmimaaGreatDoor.Ent
