/- Layer 3: contracts of the functions that ask of one character, one digit, one name; and of what a text begins with. -/
import Derived.Test.YtabplemabcahgaaDoorEntMath
import Derived.Test.YtabplemabcahgaaDoorNamesMath2
import Derived.Test.YtabplemabcahgaaDoorShelf
set_option linter.unusedVariables false
set_option linter.unusedSimpArgs false
namespace Go.Proofs.YtabplemabcahgaaDoor.Ent
open Go Go.Proofs.YtabplemabcahgaaDoor Go.Proofs.YtabplemabcahgaaDoor.Utf Go.RowKit
set_option maxRecDepth 100000

theorem ret_i32 {a b : Int} (h : a = b) : Ending.returned (.int .i32 a) = .returned (.int .i32 b) := by rw [h]
theorem ret_i64 {a b : Int} (h : a = b) : Ending.returned (.int .i64 a) = .returned (.int .i64 b) := by rw [h]

set_option maxHeartbeats 400000 in
theorem inText_any (c : Nat) (w : World) :
    Calls Tryd.prog 21 #[.int .i32 c] w fun e w' => e = .returned (.int .i32 (itself false c)) ∧ w = w' := by
  by_cases h : c = 13
  · subst h
    go_enter Tryd.func21, Tryd.ntmps21
    go_wp2
    go_ret
    exact ⟨rfl, rfl⟩
  · have hb : ((c : Int) == 13) = false := by rw [beq_eq_false_iff_ne]; omega
    have HI := hid (show itself false c = c from by unfold itself; rw [if_neg (by simp), if_neg h])
    clear h
    go_enter Tryd.func21, Tryd.ntmps21
    go_wp2
    go_ret
    exact ⟨ret_i32 (by rw [HI.out]), rfl⟩

set_option maxHeartbeats 400000 in
theorem inValue_any (c : Nat) (w : World) :
    Calls Tryd.prog 22 #[.int .i32 c] w fun e w' => e = .returned (.int .i32 (itself true c)) ∧ w = w' := by
  by_cases h : c = 9 ∨ c = 10 ∨ c = 13
  · rcases h with rfl | rfl | rfl
    all_goals
      go_enter Tryd.func22, Tryd.ntmps22
      go_wp2
      go_ret
      exact ⟨rfl, rfl⟩
  · have hb : ((c : Int) == 9) = false := by rw [beq_eq_false_iff_ne]; omega
    have hb2 : ((c : Int) == 10) = false := by rw [beq_eq_false_iff_ne]; omega
    have hb3 : ((c : Int) == 13) = false := by rw [beq_eq_false_iff_ne]; omega
    have HI := hid (show itself true c = c from by unfold itself; rw [if_pos rfl, if_neg h])
    clear h
    go_enter Tryd.func22, Tryd.ntmps22
    go_wp2
    go_ret
    exact ⟨ret_i32 (by rw [HI.out]), rfl⟩

/-- A digit's value, as the document's answer tells it: -1, if it is none. -/
def digZ (base : Nat) (b : UInt8) : Int := if isd base b = true then (dv b.toNat : Int) else -1

set_option maxHeartbeats 1000000 in
theorem rdigit_any (b : UInt8) (base : Nat) (h : base ≤ 16) (w : World) :
    Calls Tryd.prog 45 #[.int .u8 b.toNat, .int .i64 base] w fun e w' => e = .returned (.int .i64 (digZ base b)) ∧ w = w' := by
  have hb : b.toNat < 256 := UInt8.toNat_lt b
  have hd : (48 ≤ b.toNat ∧ b.toNat ≤ 57 ∧ dv b.toNat = b.toNat - 48) ∨ (97 ≤ b.toNat ∧ b.toNat ≤ 102 ∧ dv b.toNat = b.toNat - 87) ∨ (65 ≤ b.toNat ∧ b.toNat ≤ 70 ∧ dv b.toNat = b.toNat - 55) ∨
      (¬ (48 ≤ b.toNat ∧ b.toNat ≤ 57) ∧ ¬ (97 ≤ b.toNat ∧ b.toNat ≤ 102) ∧ ¬ (65 ≤ b.toNat ∧ b.toNat ≤ 70) ∧ dv b.toNat = 99) := by
    unfold dv
    by_cases c1 : 48 ≤ b.toNat ∧ b.toNat ≤ 57
    · rw [if_pos c1]; omega
    rw [if_neg c1]
    by_cases c2 : 97 ≤ b.toNat ∧ b.toNat ≤ 102
    · rw [if_pos c2]; omega
    rw [if_neg c2]
    by_cases c3 : 65 ≤ b.toNat ∧ b.toNat ≤ 70
    · rw [if_pos c3]; omega
    rw [if_neg c3]; omega
  have hz : (dv b.toNat < base ∧ digZ base b = dv b.toNat) ∨ (base ≤ dv b.toNat ∧ digZ base b = -1) := by
    unfold digZ
    by_cases c1 : isd base b = true
    · rw [if_pos c1]; exact .inl ⟨(isd_iff _ _).1 c1, rfl⟩
    · rw [if_neg c1]; exact .inr ⟨by rw [isd_iff] at c1; omega, rfl⟩
  have HD := hid hd
  have HI := hid hz
  clear hd hz
  generalize b.toNat = n at *
  generalize digZ base b = z at *
  generalize dv n = d at *
  go_enter Tryd.func45, Tryd.ntmps45
  go_wp2
  all_goals go_ret
  all_goals exact ⟨ret_i64 (by have := HI.out; have := HD.out; omega), rfl⟩

theorem rdigit_yes (b : UInt8) (base : Nat) (h : base ≤ 16) (hd : isd base b = true) (w : World) :
    Calls Tryd.prog 45 #[.int .u8 b.toNat, .int .i64 base] w fun e w' => e = .returned (.int .i64 (dv b.toNat : Nat)) ∧ w = w' := by
  have := rdigit_any b base h w
  unfold digZ at this
  rw [if_pos hd] at this
  exact this
theorem rdigit_no (b : UInt8) (base : Nat) (h : base ≤ 16) (hd : isd base b = false) (w : World) :
    Calls Tryd.prog 45 #[.int .u8 b.toNat, .int .i64 base] w fun e w' => e = .returned (.int .i64 (-1)) ∧ w = w' := by
  have := rdigit_any b base h w
  unfold digZ at this
  rw [if_neg (by rw [hd]; simp)] at this
  exact this

/-- What a text's text is. -/
theorem text_of (s : ByteArray) : ∃ l : List UInt8, s = text l ∧ l.length = s.size := ⟨s.data.toList, by cases s; rfl, (Lib.size_eq s).symm⟩
theorem text_get (l : List UInt8) (k : Nat) (hk : k < l.length) : (text l)[k]'(by rw [text_size]; exact hk) = l[k] := rfl
theorem text_list (l : List UInt8) : (text l).toList = l := by rw [Lib.toList_data, text_data]
theorem hasPre (p l : List UInt8) : Lib.hasPrefix (text l).data.toList (text p).data.toList = pre p l := by rw [text_data, text_data]; rfl
theorem pre_take (p l : List UInt8) : pre p l = (decide (p.length ≤ l.length) && (l.take p.length == p)) := by
  unfold pre
  rw [Bool.eq_iff_iff, List.isPrefixOf_iff_prefix]
  simp only [Bool.and_eq_true, decide_eq_true_eq, beq_iff_eq]
  constructor
  · rintro ⟨r, rfl⟩; simp
  · rintro ⟨h1, h2⟩; exact ⟨l.drop p.length, by rw [← h2]; simp; rw [Nat.min_eq_left h1]; exact List.take_append_drop _ _⟩

set_option maxHeartbeats 1000000 in
theorem rbegins_any (l p : List UInt8) (hl : l.length ≤ 1000000000) (hp : p.length ≤ 1000000000) (w : World) :
    Calls Tryd.prog 25 #[.string (text l), .string (text p)] w fun e w' => e = .returned (.bool (pre p l)) ∧ w = w' := by
  have s1 : (text l).size = l.length := text_size l
  have s2 : (text p).size = p.length := text_size p
  have HP := hid (pre_take p l)
  by_cases h : p.length ≤ l.length
  · have hx : (text l).extract 0 p.length = text (l.take p.length) := by rw [text_cut]; simp
    go_enter Tryd.func25, Tryd.ntmps25
    go_wp2
    all_goals go_ret
    all_goals exact ⟨ret_bool (by rw [HP.out, text_list, text_list]; simp [h]), rfl⟩
  · go_enter Tryd.func25, Tryd.ntmps25
    go_wp2
    all_goals go_ret
    all_goals exact ⟨ret_bool (by rw [HP.out]; simp [h]), rfl⟩
end Go.Proofs.YtabplemabcahgaaDoor.Ent
