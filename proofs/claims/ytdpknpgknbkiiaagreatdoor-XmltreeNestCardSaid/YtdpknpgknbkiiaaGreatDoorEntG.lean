/- Layer 3: contracts of referred and of the code's reference. -/
import Derived.Test.YtdpknpgknbkiiaaGreatDoorEntF
set_option linter.unusedVariables false
set_option linter.unusedSimpArgs false
namespace Go.Proofs.YtdpknpgknbkiiaaGreatDoor.Ent
open Go Go.Proofs.YtdpknpgknbkiiaaGreatDoor Go.Proofs.YtdpknpgknbkiiaaGreatDoor.Utf Go.RowKit
set_option maxRecDepth 100000

theorem cut_yes (x p : List UInt8) (h : pre p x = true) (a : Array UInt8) (ha : a.toList = p) (w : World) :
    Calls Tryz.prog 125 #[.string (text x), .string ⟨a⟩] w fun e w' => e = .returned (.tuple #[.string (text (x.drop p.length)), .bool true]) ∧ w = w' := by
  have e : (⟨a⟩ : ByteArray) = text p := by rw [← ha]; simp [text]
  rw [e]
  refine (Tryz.strings_CutPrefix (text x) (text p) w).mono ?_
  rintro e w' ⟨rfl, rfl⟩
  refine ⟨?_, rfl⟩
  have h2 : Lib.hasPrefix x p = true := h
  rw [text_data, text_data, h2]
  unfold Lib.trimPrefix
  rw [if_pos h2]; rfl
theorem cut_no (x p : List UInt8) (h : pre p x = false) (a : Array UInt8) (ha : a.toList = p) (w : World) :
    Calls Tryz.prog 125 #[.string (text x), .string ⟨a⟩] w fun e w' => e = .returned (.tuple #[.string (text x), .bool false]) ∧ w = w' := by
  have e : (⟨a⟩ : ByteArray) = text p := by rw [← ha]; simp [text]
  rw [e]
  refine (Tryz.strings_CutPrefix (text x) (text p) w).mono ?_
  rintro e w' ⟨rfl, rfl⟩
  refine ⟨?_, rfl⟩
  have h2 : Lib.hasPrefix x p = false := h
  rw [text_data, text_data, h2]
  unfold Lib.trimPrefix
  rw [h2]; rfl

theorem optV_is (o : Option Nat) : ∃ (c : Nat) (b : Bool), optV o = .tuple #[.int .i32 c, .bool b] ∧ (o = none → b = false ∧ c = 0) ∧ (∀ d, o = some d → c = d ∧ b = true) := by
  cases o with
  | none => exact ⟨0, false, rfl, (fun _ => ⟨rfl, rfl⟩), (fun d h => by cases h)⟩
  | some c => exact ⟨c, true, rfl, (fun h => by cases h), (fun d h => by cases h; exact ⟨rfl, rfl⟩)⟩

set_option maxHeartbeats 1000000 in
theorem referred_any (x : List UInt8) (hl : x.length ≤ 1000000000) (w : World) (hE : Errs w) :
    Calls Tryz.prog 117 #[.string (text x)] w fun e w' => e = .returned (optV (referred x)) ∧ Below w.heap.size w w' := by
  by_cases h1 : pre [35, 120] x = true
  · have hc := fun a ha w => cut_yes x [35, 120] h1 a ha w
    have hn := numbered_any 16 6 (.inr rfl) (by omega) (x.drop 2) (by simp; omega) w hE
    have hr : referred x = numd 16 6 (x.drop 2) := by unfold referred; rw [if_pos h1]
    obtain ⟨c, b, hv, _, _⟩ := optV_is (numd 16 6 (x.drop 2))
    rw [← hr] at hn hv
    rw [hv] at hn ⊢
    rw [show ([35, 120] : List UInt8).length = 2 from rfl] at hc
    generalize x.drop 2 = z at *
    have HC := hid hc
    have HN := hid hn
    clear hc hn hr hv h1 hE
    go_enter Tryz.func117, Tryz.ntmps117
    go_wp2_with fail
    refine (HC.out _ (by decide) _).mono ?_
    rintro e w1 ⟨rfl, rfl⟩
    go_wp2_with fail
    refine HN.out.mono ?_
    rintro e w1 ⟨rfl, hb⟩
    go_wp2
    go_ret2
    exact ⟨rfl, hb⟩
  · have h1' : pre [35, 120] x = false := by simpa using h1
    have hc := fun a ha w => cut_no x [35, 120] h1' a ha w
    have HC := hid hc
    clear hc
    by_cases h2 : pre [35] x = true
    · have hc := fun a ha w => cut_yes x [35] h2 a ha w
      have hn := numbered_any 10 7 (.inl rfl) (by omega) (x.drop 1) (by simp; omega) w hE
      have hr : referred x = numd 10 7 (x.drop 1) := by unfold referred; rw [if_neg h1, if_pos h2]
      obtain ⟨c, b, hv, _, _⟩ := optV_is (numd 10 7 (x.drop 1))
      rw [← hr] at hn hv
      rw [hv] at hn ⊢
      rw [show ([35] : List UInt8).length = 1 from rfl] at hc
      generalize x.drop 1 = z at *
      have HC2 := hid hc
      have HN := hid hn
      clear hc hn hr hv h1 h1' h2 hE
      go_enter Tryz.func117, Tryz.ntmps117
      go_wp2_with fail
      refine (HC.out _ (by decide) _).mono ?_
      rintro e w1 ⟨rfl, rfl⟩
      go_wp2_with fail
      refine (HC2.out _ (by decide) _).mono ?_
      rintro e w1 ⟨rfl, rfl⟩
      go_wp2_with fail
      refine HN.out.mono ?_
      rintro e w1 ⟨rfl, hb⟩
      go_wp2
      go_ret2
      exact ⟨rfl, hb⟩
    · have h2' : pre [35] x = false := by simpa using h2
      have hc := fun a ha w => cut_no x [35] h2' a ha w
      have hn := named_any x w
      have hr : referred x = named x := by unfold referred; rw [if_neg h1, if_neg h2]
      obtain ⟨c, b, hv, _, _⟩ := optV_is (named x)
      rw [← hr] at hn hv
      rw [hv] at hn ⊢
      have HC2 := hid hc
      have HN := hid hn
      clear hc hn hr hv h1 h1' h2 h2' hE
      go_enter Tryz.func117, Tryz.ntmps117
      go_wp2_with fail
      refine (HC.out _ (by decide) _).mono ?_
      rintro e w1 ⟨rfl, rfl⟩
      go_wp2_with fail
      refine (HC2.out _ (by decide) _).mono ?_
      rintro e w1 ⟨rfl, rfl⟩
      go_wp2_with fail
      refine HN.out.mono ?_
      rintro e w1 ⟨rfl, rfl⟩
      go_wp2
      go_ret2
      exact ⟨rfl, b0 _⟩

theorem index_none : ∀ (m : List UInt8), 59 ∉ m → Lib.indexByte m 59 = -1
  | [], _ => rfl
  | a :: m, h => by
    have h1 : (a == 59) = false := by rw [beq_eq_false_iff_ne]; exact fun e => h (by simp [e])
    have h2 := index_none m (fun e => h (by simp [e]))
    unfold Lib.indexByte
    rw [h1, h2]; rfl
theorem index_at : ∀ (x r : List UInt8), 59 ∉ x → Lib.indexByte (x ++ 59 :: r) 59 = x.length
  | [], r, _ => rfl
  | a :: x, r, h => by
    have h1 : (a == 59) = false := by rw [beq_eq_false_iff_ne]; exact fun e => h (by simp [e])
    have h2 := index_at x r (fun e => h (by simp [e]))
    rw [List.cons_append]
    unfold Lib.indexByte
    rw [h1, h2]
    have : ((x.length : Int) == -1) = false := by rw [beq_eq_false_iff_ne]; omega
    rw [this]
    simp
theorem IndexByte_any (l : List UInt8) (i : Int) (h : Lib.indexByte l 59 = i) (w : World) :
    Calls Tryz.prog 116 #[.string (text l), .int .u8 59] w fun e w' => e = .returned (.int .i64 i) ∧ w = w' := by
  refine (Tryz.strings_IndexByte (text l) 59 w).mono ?_
  rintro e w' ⟨rfl, rfl⟩
  refine ⟨?_, rfl⟩
  rw [text_data, show ((59 : Int).toNat.toUInt8) = 59 from rfl, h]

/-- The code's answer: a character, and how many bytes. -/
def refV (r : Nat × Nat) : Value := .tuple #[.int .i32 r.1, .int .i64 r.2]

set_option maxHeartbeats 1000000 in
theorem reference_code (m : List UInt8) (hl : m.length ≤ 100000000) (w : World) (hE : Errs w) :
    Calls Tryz.prog 96 #[.string (text (38 :: m))] w fun e w' => e = .returned (refV (refer (38 :: m))) ∧ Below w.heap.size w w' := by
  by_cases h : 59 ∈ m
  · obtain ⟨x, r, rfl, hx⟩ := semi_split m h
    have hi : Lib.indexByte (38 :: (x ++ 59 :: r)) 59 = (x.length + 1 : Nat) := by
      have := index_at (38 :: x) r (by simp [hx])
      simpa using this
    have hIB := fun w => IndexByte_any (38 :: (x ++ 59 :: r)) _ hi w
    have hr := refer_semi x r hx
    have hlen : x.length + 2 ≤ (38 :: (x ++ 59 :: r)).length := by simp
    have hlx : x.length ≤ 1000000000 := by simp at hl; omega
    have hcut : (text (38 :: (x ++ 59 :: r))).extract 1 (x.length + 1) = text x := by
      rw [text_cut]; simp
    have hn := referred_any x hlx w hE
    have s1 : (text (38 :: (x ++ 59 :: r))).size = (38 :: (x ++ 59 :: r)).length := text_size _
    generalize 38 :: (x ++ 59 :: r) = l at *
    generalize referred x = o at *
    obtain ⟨c, b, hv, hn0, hn1⟩ := optV_is o
    rw [hv] at hn
    have hc1 : (x.length : Int) + 1 ≤ (l.length : Int) := by omega
    have HI := hid hIB
    have HR := hid hr
    have HN := hid hn
    have HC := hid hcut
    clear hi hIB hr hn hv hE h hl hx
    cases b with
    | true =>
      have ho : o = some c := by
        cases o with
        | none => have := hn0 rfl; simp at this
        | some d => have := hn1 d rfl; rw [this.1]
      have HO := hid ho
      clear ho hn0 hn1
      go_enter Tryz.func96, Tryz.ntmps96
      go_wp2_with fail
      refine (HI.out _).mono ?_
      rintro e w1 ⟨rfl, rfl⟩
      go_wp2_with fail
      refine HN.out.mono ?_
      rintro e w1 ⟨rfl, hb⟩
      go_wp2
      go_ret2
      exact ⟨by rw [HR.out, HO.out]; simp only [refV]; rfl, hb⟩
    | false =>
      have ho : o = none := by
        cases o with
        | none => rfl
        | some d => have := hn1 d rfl; simp at this
      have hc0 : c = 0 := (hn0 ho).2
      have HO := hid ho
      have H0 := hid hc0
      clear ho hn0 hn1 hc0
      go_enter Tryz.func96, Tryz.ntmps96
      go_wp2_with fail
      refine (HI.out _).mono ?_
      rintro e w1 ⟨rfl, rfl⟩
      go_wp2_with fail
      refine HN.out.mono ?_
      rintro e w1 ⟨rfl, hb⟩
      go_wp2
      go_ret2
      exact ⟨by rw [HR.out, HO.out]; rfl, hb⟩
  · have hi := index_none (38 :: m) (by simp [h])
    have hIB := fun w => IndexByte_any (38 :: m) _ hi w
    have hr := refer_none m h
    generalize 38 :: m = l at *
    have HI := hid hIB
    have HR := hid hr
    clear hi hIB hr hE h hl
    go_enter Tryz.func96, Tryz.ntmps96
    go_wp2_with fail
    refine (HI.out _).mono ?_
    rintro e w1 ⟨rfl, rfl⟩
    go_wp2
    go_ret2
    exact ⟨by rw [HR.out]; rfl, b0 _⟩
end Go.Proofs.YtdpknpgknbkiiaaGreatDoor.Ent
