/- Layer 3: the walk of EntityNumbers. -/
import Derived.Test.YtabplemabcahgaaDoorEntP
set_option linter.unusedVariables false
set_option linter.unusedSimpArgs false
namespace Go.Proofs.YtabplemabcahgaaDoor.Ent
open Go Go.Proofs.YtabplemabcahgaaDoor Go.Proofs.YtabplemabcahgaaDoor.Utf Go.Proofs.YtabplemabcahgaaDoor.Names Go.RowKit
set_option maxRecDepth 100000

def A10 : List UInt8 := [48, 49, 50, 51, 52, 53, 54, 55, 56, 57]
def A16 : List UInt8 := [48, 49, 50, 51, 52, 53, 54, 55, 56, 57, 97, 98, 99, 100, 101, 102]
def B16 : List UInt8 := [48, 49, 50, 51, 52, 53, 54, 55, 56, 57, 65, 66, 67, 68, 69, 70]
theorem row_A10 : Row10 10 A10 := by intro j hj; rcases (by omega : j = 0 ∨ j = 1 ∨ j = 2 ∨ j = 3 ∨ j = 4 ∨ j = 5 ∨ j = 6 ∨ j = 7 ∨ j = 8 ∨ j = 9) with rfl | rfl | rfl | rfl | rfl | rfl | rfl | rfl | rfl | rfl <;> decide
theorem row16 (A : List UInt8) (h : (List.range 16).all (fun j => decide (dv (A.getD j 0).toNat = j)) = true) : Row10 16 A := by
  intro j hj
  simpa using List.all_eq_true.1 h j (List.mem_range.2 hj)
theorem row_A16 : Row10 16 A16 := row16 _ (by decide)
theorem row_B16 : Row10 16 B16 := row16 _ (by decide)

theorem fin_zeros (l o : List UInt8) (n k : Nat) : fin l n (o, k, 0) = (l ++ o, n + k, 0) := rfl

/-- What is asked of a number's reference: what it tells, behind an x and as a value, and that it tells nothing without its end. -/
def NumP (n : Nat) (z : List UInt8) : Prop :=
  z.length ≤ 20 ∧ 1 ≤ z.length ∧
  (fine (n : Int) = true → ∃ i j, tell false (120 :: z) = (120 :: enc (n : Int), i, 0) ∧ tell true z = (enc (n : Int), j, 0)) ∧
  (fine (n : Int) = false → tell false (120 :: z) = ([], 1, 5) ∧ tell true z = ([], 0, 5)) ∧
  tell false (z.take (z.length - 1)) = ([], 0, 5)
theorem num_p {n : Nat} {x : List UInt8} (hx : 59 ∉ x) (hl : x.length ≤ 18) (hr : referred x = if fine (n : Int) = true then some n else none) : NumP n (38 :: (x ++ [59])) := by
  have h120 : ∀ m, tell false (120 :: m) = fin [120] 1 (tell false m) := fun m => by
    have := tell_self (v := false) (c := 120) (by decide) (by omega) (by omega) (by omega) (fun h => by cases h) m
    rw [enc_low (by omega)] at this
    exact this
  refine ⟨by simp; omega, by simp, fun hf => ?_, fun hf => ?_, ?_⟩
  · rw [if_pos hf] at hr
    have h1 := fun v => tell_ref (v := v) (m := []) hx hr
    simp only [tell_nil, fin_zeros, List.append_nil] at h1
    refine ⟨_, _, by rw [h120, h1, fin_zeros]; rfl, h1 true⟩
  · rw [if_neg (by rw [hf]; simp)] at hr
    have h1 := fun v => tell_noref (v := v) (m := []) hx hr
    refine ⟨by rw [h120, h1]; rfl, h1 true⟩
  · have e : (38 :: (x ++ [59])).take ((38 :: (x ++ [59])).length - 1) = 38 :: x := by simp
    rw [e]
    exact tell_open hx
theorem num_10 {n : Nat} (h : n < 2097152) : NumP n (38 :: (35 :: num 10 A10 n ++ [59])) := by
  have hf := num_facts (by omega) row_A10 n
  refine num_p ?_ ?_ (referred_ten row_A10 h)
  · intro hm
    rcases List.mem_cons.1 hm with hm | hm
    · cases hm
    · exact (num_head (by omega) (by omega) row_A10 n _ hm).2 rfl
  · have := hf.2.2.2 7 (by omega) (by omega)
    simp; omega
theorem num_16 {A : List UInt8} (ha : Row10 16 A) {n : Nat} (h : n < 2097152) : NumP n (38 :: (35 :: 120 :: num 16 A n ++ [59])) := by
  have hf := num_facts (by omega) ha n
  refine num_p ?_ ?_ (referred_hex ha h)
  · intro hm
    rcases List.mem_cons.1 hm with hm | hm
    · cases hm
    · rcases List.mem_cons.1 hm with hm | hm
      · cases hm
      · exact (num_head (by omega) (by omega) ha n _ hm).2 rfl
  · have := hf.2.2.2 6 (by omega) (by omega)
    simp; omega

theorem wrap_nonneg (x : Int) : 0 ≤ IntKind.u64.wrap x := by
  unfold IntKind.wrap
  simp only [IntKind.signed, IntKind.bits]
  first | exact Int.emod_nonneg _ (by decide) | (split <;> first | exact Int.emod_nonneg _ (by decide) | omega)
theorem wrap_mod (x : Int) : ∃ n : Nat, (IntKind.u64.wrap x).tmod 2097152 = (n : Int) ∧ n < 2097152 := by
  have h0 := wrap_nonneg x
  rw [Int.tmod_eq_emod_of_nonneg h0]
  have h1 := Int.emod_nonneg (IntKind.u64.wrap x) (show (2097152 : Int) ≠ 0 by omega)
  have h2 := Int.emod_lt_of_pos (IntKind.u64.wrap x) (show (0 : Int) < 2097152 by omega)
  obtain ⟨n, hn⟩ := Int.eq_ofNat_of_zero_le h1
  exact ⟨n, hn, by omega⟩

theorem digits_10 (n : Nat) (h : n < 2097152) (w : World) : Calls Tryd.prog 17 #[.int .i64 n, .int .i64 10, .string ⟨#[48, 49, 50, 51, 52, 53, 54, 55, 56, 57]⟩] w fun e w' => e = .returned (.string (text (num 10 A10 n))) ∧ Below w.heap.size w w' :=
  digits_any n 10 A10 h (by omega) (by omega) (by decide) row_A10 (by decide) w
theorem digits_a (n : Nat) (h : n < 2097152) (w : World) : Calls Tryd.prog 17 #[.int .i64 n, .int .i64 16, .string ⟨#[48, 49, 50, 51, 52, 53, 54, 55, 56, 57, 97, 98, 99, 100, 101, 102]⟩] w fun e w' => e = .returned (.string (text (num 16 A16 n))) ∧ Below w.heap.size w w' :=
  digits_any n 16 A16 h (by omega) (by omega) (by decide) row_A16 (by decide) w
theorem digits_b (n : Nat) (h : n < 2097152) (w : World) : Calls Tryd.prog 17 #[.int .i64 n, .int .i64 16, .string ⟨#[48, 49, 50, 51, 52, 53, 54, 55, 56, 57, 65, 66, 67, 68, 69, 70]⟩] w fun e w' => e = .returned (.string (text (num 16 B16 n))) ∧ Below w.heap.size w w' :=
  digits_any n 16 B16 h (by omega) (by omega) (by decide) row_B16 (by decide) w
theorem lit_add (p l : List UInt8) (a : Array UInt8) (ha : a.toList = p) : (⟨a⟩ : ByteArray) ++ text l = text (p ++ l) := by
  have e1 : (⟨a⟩ : ByteArray) = text p := by rw [← ha]; simp [text]
  rw [e1, text_append]
theorem add_lit (p l : List UInt8) (a : Array UInt8) (ha : a.toList = p) : text l ++ (⟨a⟩ : ByteArray) = text (l ++ p) := by
  have e1 : (⟨a⟩ : ByteArray) = text p := by rw [← ha]; simp [text]
  rw [e1, text_append]

/-- Three texts, in a block. -/
def Three (b : Nat) (z0 z1 z2 : List UInt8) (w : World) : Prop := ∃ fz, w.heap[b]? = some (.cells #[.string (text z0), .string (text z1), .string (text z2)] 9 fz)
theorem Three.at {b : Nat} {z0 z1 z2 : List UInt8} {w : World} (h : Three b z0 z1 z2 w) {n : Nat} (p0 : NumP n z0) (p1 : NumP n z1) (p2 : NumP n z2) (k : Nat) (hk : k < 3) : ∃ z, w.cell? ⟨b, k, none⟩ = some (.string (text z)) ∧ NumP n z := by
  obtain ⟨fz, h⟩ := h
  have := fun j => Lib.cell_of_heap h j
  rcases (by omega : k = 0 ∨ k = 1 ∨ k = 2) with rfl | rfl | rfl
  · exact ⟨z0, by rw [this]; rfl, p0⟩
  · exact ⟨z1, by rw [this]; rfl, p1⟩
  · exact ⟨z2, by rw [this]; rfl, p2⟩
theorem Three.below {b : Nat} {z0 z1 z2 : List UInt8} {w w' : World} (h : Three b z0 z1 z2 w) {B : Nat} (hb : Below B w w') (hB : b < B) : Three b z0 z1 z2 w' := by
  obtain ⟨fz, h⟩ := h
  exact ⟨fz, (hb.block b hB).trans h⟩

set_option maxHeartbeats 4000000 in
theorem EntityNumbers_walk (x : Int) (w : World) (hw : Fit w) :
    Calls Tryd.prog 7 #[.int .i64 x] w fun e w' => e = .returned (.bool true) ∧ Below w.heap.size w w' := by
  have HW := hid hw
  clear hw
  obtain ⟨n, hn, hn2⟩ := wrap_mod x
  have hnw : wrap64 (n : Int) = (n : Int) := IntWalk.wrap64_in _ (by omega)
  have hF := fun w => RFine_any (n : Int) w
  have D10 := hid (fun w => digits_10 n hn2 w)
  have DA := hid (fun w => digits_a n hn2 w)
  have DB := hid (fun w => digits_b n hn2 w)
  have hp0 := num_10 hn2
  have hp1 := num_16 row_A16 hn2
  have hp2 := num_16 row_B16 hn2
  have l0 := (num_facts (by omega) row_A10 n).2.2.2 7 (by omega) (by omega)
  have l1 := (num_facts (by omega) row_A16 n).2.2.2 6 (by omega) (by omega)
  have l2 := (num_facts (by omega) row_B16 n).2.2.2 6 (by omega) (by omega)
  have e0 : 38 :: (35 :: num 10 A10 n ++ [59]) = ([38, 35] ++ num 10 A10 n) ++ [59] := by simp
  have e1 : 38 :: (35 :: 120 :: num 16 A16 n ++ [59]) = ([38, 35, 120] ++ num 16 A16 n) ++ [59] := by simp
  have e2 : 38 :: (35 :: 120 :: num 16 B16 n ++ [59]) = ([38, 35, 120] ++ num 16 B16 n) ++ [59] := by simp
  rw [e0] at hp0
  rw [e1] at hp1
  rw [e2] at hp2
  clear e0 e1 e2
  generalize num 10 A10 n = d0 at *
  generalize num 16 A16 n = d1 at *
  generalize num 16 B16 n = d2 at *
  have a0 : (⟨#[38, 35]⟩ : ByteArray) ++ text d0 = text ([38, 35] ++ d0) := lit_add _ _ _ rfl
  have a1 : (⟨#[38, 35, 120]⟩ : ByteArray) ++ text d1 = text ([38, 35, 120] ++ d1) := lit_add _ _ _ rfl
  have a2 : (⟨#[38, 35, 120]⟩ : ByteArray) ++ text d2 = text ([38, 35, 120] ++ d2) := lit_add _ _ _ rfl
  have y0 : (⟨#[38, 35]⟩ : ByteArray).size + (text d0).size ≤ 9223372036854775807 := by rw [text_size]; simp [ByteArray.size]; omega
  have y1 : (⟨#[38, 35, 120]⟩ : ByteArray).size + (text d1).size ≤ 9223372036854775807 := by rw [text_size]; simp [ByteArray.size]; omega
  have y2 : (⟨#[38, 35, 120]⟩ : ByteArray).size + (text d2).size ≤ 9223372036854775807 := by rw [text_size]; simp [ByteArray.size]; omega
  have m0 : ([38, 35] ++ d0).length ≤ 100 := by simp; omega
  have m1 : ([38, 35, 120] ++ d1).length ≤ 100 := by simp; omega
  have m2 : ([38, 35, 120] ++ d2).length ≤ 100 := by simp; omega
  generalize [38, 35] ++ d0 = q0 at *
  generalize [38, 35, 120] ++ d1 = q1 at *
  generalize [38, 35, 120] ++ d2 = q2 at *
  have b0' : text q0 ++ (⟨#[59]⟩ : ByteArray) = text (q0 ++ [59]) := add_lit _ _ _ rfl
  have b1' : text q1 ++ (⟨#[59]⟩ : ByteArray) = text (q1 ++ [59]) := add_lit _ _ _ rfl
  have b2' : text q2 ++ (⟨#[59]⟩ : ByteArray) = text (q2 ++ [59]) := add_lit _ _ _ rfl
  have x0 : (text q0).size + (⟨#[59]⟩ : ByteArray).size ≤ 9223372036854775807 := by rw [text_size]; simp [ByteArray.size]; omega
  have x1 : (text q1).size + (⟨#[59]⟩ : ByteArray).size ≤ 9223372036854775807 := by rw [text_size]; simp [ByteArray.size]; omega
  have x2 : (text q2).size + (⟨#[59]⟩ : ByteArray).size ≤ 9223372036854775807 := by rw [text_size]; simp [ByteArray.size]; omega
  generalize q0 ++ [59] = z0 at *
  generalize q1 ++ [59] = z1 at *
  generalize q2 ++ [59] = z2 at *
  have P0 := hid hp0
  have P1 := hid hp1
  have P2 := hid hp2
  clear hp0 hp1 hp2 m0 m1 m2 l0 l1 l2
  by_cases hf : fine (n : Int) = true
  · rw [hf] at hF
    have HF := hid hF
    have HP := hid (fun w => RPut_any (n : Int) hf w)
    have HFT := hid hf
    have hel := enc_len (n : Int)
    clear hF hf
    go_enter Tryd.func7, Tryd.ntmps7
    go_wp2_with fail
    refine (D10.out _).mono ?_
    rintro e w1 ⟨rfl, hb1⟩
    go_wp2_with fail
    refine (HF.out _).mono ?_
    rintro e w2 ⟨rfl, rfl⟩
    go_wp2_with fail
    refine (HP.out _).mono ?_
    rintro e w3 ⟨vp, rfl, hvp, hb3⟩
    have hcv := hvp.conv (P := Tryd.prog) 34 9 5 underB under8 under9
    have HB3 := hid (bt hb1 hb3)
    clear hvp hb1 hb3
    go_wp2_with fail
    refine (DA.out _).mono ?_
    rintro e w4 ⟨rfl, hb4⟩
    have HB4 := hid (bt HB3.out hb4)
    clear hb4
    go_wp2_with fail
    refine (DB.out _).mono ?_
    rintro e w5 ⟨rfl, hb5⟩
    have HB5 := hid (bt HB4.out hb5)
    clear hb5
    have q1' : ((text (enc (n : Int))).toList == ([] : List UInt8)) = false := list_no (fun e => by have := congrArg List.length e; rw [List.length_nil] at this; omega)
    have q2' : (⟨#[120]⟩ : ByteArray) ++ text (enc (n : Int)) = text ([120] ++ enc (n : Int)) := lit_add _ _ _ rfl
    have q3' : (⟨#[120]⟩ : ByteArray).size + (text (enc (n : Int))).size ≤ 9223372036854775807 := by rw [text_size]; simp [ByteArray.size]; omega
    go_wp2_with fail
    clear a0 a1 a2 b0' b1' b2' y0 y1 y2 x0 x1 x2
    have hz5 : w.heap.size ≤ w5.heap.size := HB5.out.size
    go_loopw [40] (fun i wr => ∃ k : Nat, k ≤ 3 ∧ i = .int .i64 k ∧ Three w5.heap.size z0 z1 z2 wr ∧ Below w5.heap.size w5 wr ∧ w5.heap.size < wr.heap.size) (fun i _ => 3 - (intOf i).toNat)
    case atStart => exact ⟨0, by omega, rfl, ⟨_, heap_alloc_new w5 _⟩, ba (b0 w5) _, by simp⟩
    case round =>
      rename World => wr
      obtain ⟨k, hk, rfl, hth, hbr, hzr⟩ := hrel
      have HTH := hid hth
      have HBR := hid hbr
      have HFR := hid (HW.out.below (HB5.out.trans (hbr.mono hz5)))
      clear hth hbr
      by_cases hlt : k < 3
      · obtain ⟨z, hcell, hl1, hl2, hy, hn0, ho⟩ := HTH.out.at P0.out P1.out P2.out k hlt
        have s1 : (text z).size = z.length := text_size z
        have v1 : (⟨#[120]⟩ : ByteArray) ++ text z = text (120 :: z) := lit_add [120] _ _ rfl
        have v2 : (⟨#[120]⟩ : ByteArray).size + (text z).size ≤ 9223372036854775807 := by rw [text_size]; simp [ByteArray.size]; omega
        have v3 : (text z).extract 0 (z.length - 1) = text (z.take (z.length - 1)) := by rw [text_cut]; simp
        have v4 : (z.length : Int) - 1 = ((z.length - 1 : Nat) : Int) := by omega
        have t3 := fun w hw => Text_eq (z.take (z.length - 1)) (by simp; omega) _ _ _ ho _ rfl w hw
        have hle1 : z.length - 1 ≤ z.length := by omega
        obtain ⟨i1, j1, h1, h2⟩ := hy HFT.out
        have t1 := fun w hw => Text_eq (120 :: z) (by simp; omega) _ _ _ h1 _ rfl w hw
        have t2 := fun w hw => Value_eq z (by omega) _ _ _ h2 _ rfl w hw
        clear h1 h2
        generalize 120 :: z = zx at *
        generalize z.take (z.length - 1) = zt at *
        generalize z.length - 1 = lz at *
        have T1 := hid t1
        have T2 := hid t2
        have T3 := hid t3
        clear t1 t2 t3 ho hy hn0
        go_wp2_with fail
        refine (T1.out _ HFR.out).mono ?_
        rintro e w6 ⟨rfl, hb6⟩
        have HB6 := hid hb6
        clear hb6
        go_wp2_with fail
        refine (T2.out _ (HFR.out.below HB6.out)).mono ?_
        rintro e w7 ⟨rfl, hb7⟩
        have HB7 := hid (bt HB6.out hb7)
        clear hb7
        go_wp2_with fail
        refine (T3.out _ (HFR.out.below HB7.out)).mono ?_
        rintro e w8 ⟨rfl, hb8⟩
        have HB8 := hid (bt HB7.out hb8)
        clear hb8
        have hz8 : wr.heap.size ≤ w8.heap.size := HB8.out.size
        go_wp2_with fail
        go_roundw
        case rel => exact ⟨k + 1, by omega, by go_num, HTH.out.below HB8.out hzr, HBR.out.trans (HB8.out.mono (by omega)), by omega⟩
        case measure => simp [intOf]; omega
      · go_wp2_with fail
        refine (alive_any _ HFR.out).mono ?_
        rintro e w6 ⟨rfl, hb6⟩
        go_wp2
        go_ret
        exact ⟨rfl, bt (HB5.out.trans (HBR.out.mono hz5)) hb6⟩
  · have hf' : fine (n : Int) = false := by simpa using hf
    rw [hf'] at hF
    have HF := hid hF
    have HFT := hid hf'
    clear hF hf hf'
    go_enter Tryd.func7, Tryd.ntmps7
    go_wp2_with fail
    refine (D10.out _).mono ?_
    rintro e w1 ⟨rfl, hb1⟩
    go_wp2_with fail
    refine (HF.out _).mono ?_
    rintro e w2 ⟨rfl, rfl⟩
    have HB3 := hid hb1
    clear hb1
    go_wp2_with fail
    refine (DA.out _).mono ?_
    rintro e w4 ⟨rfl, hb4⟩
    have HB4 := hid (bt HB3.out hb4)
    clear hb4
    go_wp2_with fail
    refine (DB.out _).mono ?_
    rintro e w5 ⟨rfl, hb5⟩
    have HB5 := hid (bt HB4.out hb5)
    clear hb5
    go_wp2_with fail
    clear a0 a1 a2 b0' b1' b2' y0 y1 y2 x0 x1 x2
    have hz5 : w.heap.size ≤ w5.heap.size := HB5.out.size
    go_loopw [40] (fun i wr => ∃ k : Nat, k ≤ 3 ∧ i = .int .i64 k ∧ Three w5.heap.size z0 z1 z2 wr ∧ Below w5.heap.size w5 wr ∧ w5.heap.size < wr.heap.size) (fun i _ => 3 - (intOf i).toNat)
    case atStart => exact ⟨0, by omega, rfl, ⟨_, heap_alloc_new w5 _⟩, ba (b0 w5) _, by simp⟩
    case round =>
      rename World => wr
      obtain ⟨k, hk, rfl, hth, hbr, hzr⟩ := hrel
      have HTH := hid hth
      have HBR := hid hbr
      have HFR := hid (HW.out.below (HB5.out.trans (hbr.mono hz5)))
      clear hth hbr
      by_cases hlt : k < 3
      · obtain ⟨z, hcell, hl1, hl2, hy, hn0, ho⟩ := HTH.out.at P0.out P1.out P2.out k hlt
        have s1 : (text z).size = z.length := text_size z
        have v1 : (⟨#[120]⟩ : ByteArray) ++ text z = text (120 :: z) := lit_add [120] _ _ rfl
        have v2 : (⟨#[120]⟩ : ByteArray).size + (text z).size ≤ 9223372036854775807 := by rw [text_size]; simp [ByteArray.size]; omega
        have v3 : (text z).extract 0 (z.length - 1) = text (z.take (z.length - 1)) := by rw [text_cut]; simp
        have v4 : (z.length : Int) - 1 = ((z.length - 1 : Nat) : Int) := by omega
        have t3 := fun w hw => Text_eq (z.take (z.length - 1)) (by simp; omega) _ _ _ ho _ rfl w hw
        have hle1 : z.length - 1 ≤ z.length := by omega
        obtain ⟨h1, h2⟩ := hn0 HFT.out
        have t1 := fun w hw => Text_eq (120 :: z) (by simp; omega) _ _ _ h1 _ rfl w hw
        have t2 := fun w hw => Value_eq z (by omega) _ _ _ h2 _ rfl w hw
        clear h1 h2
        generalize 120 :: z = zx at *
        generalize z.take (z.length - 1) = zt at *
        generalize z.length - 1 = lz at *
        have T1 := hid t1
        have T2 := hid t2
        have T3 := hid t3
        clear t1 t2 t3 ho hy hn0
        go_wp2_with fail
        refine (T1.out _ HFR.out).mono ?_
        rintro e w6 ⟨rfl, hb6⟩
        have HB6 := hid hb6
        clear hb6
        go_wp2_with fail
        refine (T2.out _ (HFR.out.below HB6.out)).mono ?_
        rintro e w7 ⟨rfl, hb7⟩
        have HB7 := hid (bt HB6.out hb7)
        clear hb7
        go_wp2_with fail
        refine (T3.out _ (HFR.out.below HB7.out)).mono ?_
        rintro e w8 ⟨rfl, hb8⟩
        have HB8 := hid (bt HB7.out hb8)
        clear hb8
        have hz8 : wr.heap.size ≤ w8.heap.size := HB8.out.size
        go_wp2_with fail
        go_roundw
        case rel => exact ⟨k + 1, by omega, by go_num, HTH.out.below HB8.out hzr, HBR.out.trans (HB8.out.mono (by omega)), by omega⟩
        case measure => simp [intOf]; omega
      · go_wp2_with fail
        refine (alive_any _ HFR.out).mono ?_
        rintro e w6 ⟨rfl, hb6⟩
        go_wp2
        go_ret
        exact ⟨rfl, bt (HB5.out.trans (HBR.out.mono hz5)) hb6⟩
end Go.Proofs.YtabplemabcahgaaDoor.Ent
