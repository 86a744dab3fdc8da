/- Layer 8: contract of the document's own answer: Quote. (gen_flD.py) -/
import Derived.Test.YtblpckeimdmpaaaGreatDoorFlC
import Derived.Test.YtblpckeimdmpaaaGreatDoorConv
set_option linter.unusedVariables false
set_option linter.unusedSimpArgs false
namespace Go.Proofs.YtblpckeimdmpaaaGreatDoor.Fl
open Go Go.Proofs.YtblpckeimdmpaaaGreatDoor Go.Proofs.YtblpckeimdmpaaaGreatDoor.Utf Go.Proofs.YtblpckeimdmpaaaGreatDoor.Names Go.RowKit
set_option maxRecDepth 100000

theorem text_append (a b : List UInt8) : text a ++ text b = text (a ++ b) := by
  have h : (text a ++ text b).data.toList = (text (a ++ b)).data.toList := by
    rw [text_data, ByteArray.data_append]
    simp [text]
  generalize text a ++ text b = x at *
  cases x with
  | mk d => simp [text] at h ⊢; rw [← h]
theorem lit_add (p l : List UInt8) (a : Array UInt8) (ha : a.toList = p) : (⟨a⟩ : ByteArray) ++ text l = text (p ++ l) := by
  have e1 : (⟨a⟩ : ByteArray) = text p := by rw [← ha]; simp [text]
  rw [e1, text_append]
theorem add_lit (p l : List UInt8) (a : Array UInt8) (ha : a.toList = p) : text l ++ (⟨a⟩ : ByteArray) = text (l ++ p) := by
  have e1 : (⟨a⟩ : ByteArray) = text p := by rw [← ha]; simp [text]
  rw [e1, text_append]
theorem qs_snoc {l : List UInt8} {k : Nat} {b : UInt8} (h : l[k]? = some b) : qs (l.take (k + 1)) = qs (l.take k) ++ qb b := by
  obtain ⟨h1, rfl⟩ := List.getElem?_eq_some_iff.1 h
  rw [List.take_succ_eq_append_getElem h1, qs_app, qs_cons]
  show _ ++ (_ ++ []) = _
  rw [List.append_nil]
theorem one_at {l : List UInt8} {k : Nat} {b : UInt8} (h : l[k]? = some b) : (text l).extract k (k + 1) = text [b] := by
  obtain ⟨h1, rfl⟩ := List.getElem?_eq_some_iff.1 h
  rw [text_cut, List.drop_eq_getElem_cons h1, show k + 1 - k = 1 by omega]; rfl
/-- The document's own answer, as values. -/
def rquoteV (l : List UInt8) : Value := if check l = l.length then .tuple #[.string (text (quote l)), .bool true] else .tuple #[.string (text []), .bool false]

set_option maxHeartbeats 2000000 in
theorem RQuote_any (l : List UInt8) (hl : l.length ≤ 1000000) (w : World) :
    Calls Tryz.prog 13 #[.string (text l)] w fun e w' => e = .returned (rquoteV l) ∧ Below w.heap.size w w' := by
  have s1 : (text l).size = l.length := text_size l
  obtain ⟨vb, w1, hcv, hvb, hb1, _⟩ := conv_at (P := Tryz.prog) l (by omega) 9 44 5 under9 underB under8 w
  have hck := RCheck_any vb l w1 (hvb w1 rfl)
  have HCK := hid hck
  have HB1 := hid hb1
  clear hck hvb hb1
  by_cases hc : check l = l.length
  · have hev : rquoteV l = .tuple #[.string (text (quote l)), .bool true] := by unfold rquoteV; rw [if_pos hc]
    rw [hc] at HCK
    have HEV := hid hev
    clear hc hev
    go_enter Tryz.func13, Tryz.ntmps13
    go_wp2_with fail
    refine HCK.out.mono ?_
    rintro e w2 ⟨rfl, hb2⟩
    have HB2 := hid (bt HB1.out hb2)
    clear hb2 hcv
    go_wp2_with fail
    go_loop [4, 5] (fun o i => ∃ k : Nat, k ≤ l.length ∧ i = .int .i64 k ∧ o = .string (text (qs (l.take k)))) (fun _ i => l.length - (intOf i).toNat)
    case atStart => exact ⟨0, by omega, rfl, rfl⟩
    case round =>
      obtain ⟨k, hk, rfl, rfl⟩ := hrel
      by_cases hlt : k < l.length
      · obtain ⟨b, hbk⟩ : ∃ b, l[k]? = some b := ⟨l[k], List.getElem?_eq_getElem hlt⟩
        have hx : k < (text l).size := by omega
        have hn : ((text l)[k]'hx) = b := (List.getElem?_eq_some_iff.1 hbk).2
        have hsn := qs_snoc hbk
        have hone := one_at hbk
        have hol := (qs_len (l.take k)).2
        rw [List.length_take] at hol
        have hq1 : (k : Int) < (l.length : Int) := by omega
        generalize qs (l.take k) = out at *
        have hou : out.length ≤ 2000000 := by omega
        have HS := hid hsn
        clear hsn hol hbk

        by_cases h34 : b = 34
        · have hcn : (((text l)[k]'hx).toNat : Int) = 34 := by rw [hn, h34]; rfl
          have HES := hid (show qs (l.take (k + 1)) = out ++ [92, 34] by rw [HS.out, h34]; rfl)
          have had : text out ++ (⟨#[92, 34]⟩ : ByteArray) = text (out ++ [92, 34]) := add_lit [92, 34] out #[92, 34] rfl
          have hadz : (text out).size + (⟨#[92, 34]⟩ : ByteArray).size ≤ 9223372036854775807 := by rw [show (⟨#[92, 34]⟩ : ByteArray) = text [92, 34] from rfl, text_size, text_size]; simp; omega
          clear h34 hn hone
          go_wp2_with fail
          all_goals
            go_round
            case rel => exact ⟨k + 1, hlt, by go_num, by rw [HES.out]⟩
            case measure => simp [intOf]; omega
        have m34 : ¬ (((text l)[k]'hx).toNat : Int) = 34 := by rw [hn]; intro e; exact h34 (UInt8.toNat_inj.1 (by have : (34 : UInt8).toNat = 34 := rfl; omega))
        by_cases h92 : b = 92
        · have hcn : (((text l)[k]'hx).toNat : Int) = 92 := by rw [hn, h92]; rfl
          have HES := hid (show qs (l.take (k + 1)) = out ++ [92, 92] by rw [HS.out, h92]; rfl)
          have had : text out ++ (⟨#[92, 92]⟩ : ByteArray) = text (out ++ [92, 92]) := add_lit [92, 92] out #[92, 92] rfl
          have hadz : (text out).size + (⟨#[92, 92]⟩ : ByteArray).size ≤ 9223372036854775807 := by rw [show (⟨#[92, 92]⟩ : ByteArray) = text [92, 92] from rfl, text_size, text_size]; simp; omega
          clear h92 hn hone
          go_wp2_with fail
          all_goals
            go_round
            case rel => exact ⟨k + 1, hlt, by go_num, by rw [HES.out]⟩
            case measure => simp [intOf]; omega
        have m92 : ¬ (((text l)[k]'hx).toNat : Int) = 92 := by rw [hn]; intro e; exact h92 (UInt8.toNat_inj.1 (by have : (92 : UInt8).toNat = 92 := rfl; omega))
        by_cases h10 : b = 10
        · have hcn : (((text l)[k]'hx).toNat : Int) = 10 := by rw [hn, h10]; rfl
          have HES := hid (show qs (l.take (k + 1)) = out ++ [92, 110] by rw [HS.out, h10]; rfl)
          have had : text out ++ (⟨#[92, 110]⟩ : ByteArray) = text (out ++ [92, 110]) := add_lit [92, 110] out #[92, 110] rfl
          have hadz : (text out).size + (⟨#[92, 110]⟩ : ByteArray).size ≤ 9223372036854775807 := by rw [show (⟨#[92, 110]⟩ : ByteArray) = text [92, 110] from rfl, text_size, text_size]; simp; omega
          clear h10 hn hone
          go_wp2_with fail
          all_goals
            go_round
            case rel => exact ⟨k + 1, hlt, by go_num, by rw [HES.out]⟩
            case measure => simp [intOf]; omega
        have m10 : ¬ (((text l)[k]'hx).toNat : Int) = 10 := by rw [hn]; intro e; exact h10 (UInt8.toNat_inj.1 (by have : (10 : UInt8).toNat = 10 := rfl; omega))
        by_cases h13 : b = 13
        · have hcn : (((text l)[k]'hx).toNat : Int) = 13 := by rw [hn, h13]; rfl
          have HES := hid (show qs (l.take (k + 1)) = out ++ [92, 114] by rw [HS.out, h13]; rfl)
          have had : text out ++ (⟨#[92, 114]⟩ : ByteArray) = text (out ++ [92, 114]) := add_lit [92, 114] out #[92, 114] rfl
          have hadz : (text out).size + (⟨#[92, 114]⟩ : ByteArray).size ≤ 9223372036854775807 := by rw [show (⟨#[92, 114]⟩ : ByteArray) = text [92, 114] from rfl, text_size, text_size]; simp; omega
          clear h13 hn hone
          go_wp2_with fail
          all_goals
            go_round
            case rel => exact ⟨k + 1, hlt, by go_num, by rw [HES.out]⟩
            case measure => simp [intOf]; omega
        have m13 : ¬ (((text l)[k]'hx).toNat : Int) = 13 := by rw [hn]; intro e; exact h13 (UInt8.toNat_inj.1 (by have : (13 : UInt8).toNat = 13 := rfl; omega))
        by_cases h9 : b = 9
        · have hcn : (((text l)[k]'hx).toNat : Int) = 9 := by rw [hn, h9]; rfl
          have HES := hid (show qs (l.take (k + 1)) = out ++ [92, 116] by rw [HS.out, h9]; rfl)
          have had : text out ++ (⟨#[92, 116]⟩ : ByteArray) = text (out ++ [92, 116]) := add_lit [92, 116] out #[92, 116] rfl
          have hadz : (text out).size + (⟨#[92, 116]⟩ : ByteArray).size ≤ 9223372036854775807 := by rw [show (⟨#[92, 116]⟩ : ByteArray) = text [92, 116] from rfl, text_size, text_size]; simp; omega
          clear h9 hn hone
          go_wp2_with fail
          all_goals
            go_round
            case rel => exact ⟨k + 1, hlt, by go_num, by rw [HES.out]⟩
            case measure => simp [intOf]; omega
        have m9 : ¬ (((text l)[k]'hx).toNat : Int) = 9 := by rw [hn]; intro e; exact h9 (UInt8.toNat_inj.1 (by have : (9 : UInt8).toNat = 9 := rfl; omega))
        have HES := hid (show qs (l.take (k + 1)) = out ++ [b] by rw [HS.out]; unfold qb; rw [if_neg h34, if_neg h92, if_neg h10, if_neg h13, if_neg h9])
        have had : text out ++ text [b] = text (out ++ [b]) := text_append _ _
        have hadz : (text out).size + (text [b]).size ≤ 9223372036854775807 := by rw [text_size, text_size]; simp; omega
        clear h34 h92 h10 h13 h9 hn
        have hq2 : (k : Int) + 1 ≤ (l.length : Int) := by omega
        go_wp2_with fail
        all_goals
          go_round
          case rel => exact ⟨k + 1, hlt, by go_num, by rw [HES.out]⟩
          case measure => simp [intOf]; omega
      · have hke : k = l.length := by omega
        subst hke
        rw [List.take_length]
        have hq1 : ¬ (l.length : Int) < (l.length : Int) := by omega
        have hql := (qs_len l).2
        have HQ := hid (show text (34 :: (qs l ++ [34])) = text (quote l) from rfl)
        generalize qs l = out at *
        have had1 : (⟨#[34]⟩ : ByteArray) ++ text out = text (34 :: out) := lit_add [34] out #[34] rfl
        have had2 : text (34 :: out) ++ (⟨#[34]⟩ : ByteArray) = text (34 :: (out ++ [34])) := add_lit [34] (34 :: out) #[34] rfl
        have hz1 : (⟨#[34]⟩ : ByteArray).size + (text out).size ≤ 9223372036854775807 := by rw [show (⟨#[34]⟩ : ByteArray) = text [34] from rfl, text_size, text_size]; simp; omega
        have hz2 : (text (34 :: out)).size + (⟨#[34]⟩ : ByteArray).size ≤ 9223372036854775807 := by rw [show (⟨#[34]⟩ : ByteArray) = text [34] from rfl, text_size, text_size]; simp; omega
        go_wp2
        all_goals go_ret2
        all_goals exact ⟨by rw [HEV.out, ← HQ.out]; rfl, HB2.out⟩
  · have hev : rquoteV l = .tuple #[.string (text []), .bool false] := by unfold rquoteV; rw [if_neg hc]
    have hcl := check_le l
    have hc' : check l < l.length := by omega
    have hci : (check l : Int) < (l.length : Int) := by omega
    generalize check l = c at *
    have HEV := hid hev
    clear hc hev hcl
    go_enter Tryz.func13, Tryz.ntmps13
    go_wp2_with fail
    refine HCK.out.mono ?_
    rintro e w2 ⟨rfl, hb2⟩
    have HB2 := hid (bt HB1.out hb2)
    clear hb2 hcv
    go_wp2
    go_ret2
    exact ⟨by rw [HEV.out]; rfl, HB2.out⟩
end Go.Proofs.YtblpckeimdmpaaaGreatDoor.Fl
