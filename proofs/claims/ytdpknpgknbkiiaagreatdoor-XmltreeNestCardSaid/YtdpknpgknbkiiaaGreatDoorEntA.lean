/- Layer 3: contracts of the functions that ask of one character, one digit, one name; and of what a text begins with. -/
import Derived.Test.YtdpknpgknbkiiaaGreatDoorEntMath
import Derived.Test.YtdpknpgknbkiiaaGreatDoorNamesMath2
import Derived.Test.YtdpknpgknbkiiaaGreatDoorShelf
set_option linter.unusedVariables false
set_option linter.unusedSimpArgs false
namespace Go.Proofs.YtdpknpgknbkiiaaGreatDoor.Ent
open Go Go.Proofs.YtdpknpgknbkiiaaGreatDoor Go.Proofs.YtdpknpgknbkiiaaGreatDoor.Utf Go.RowKit
set_option maxRecDepth 100000

theorem ret_i32 {a b : Int} (h : a = b) : Ending.returned (.int .i32 a) = .returned (.int .i32 b) := by rw [h]
theorem ret_i64 {a b : Int} (h : a = b) : Ending.returned (.int .i64 a) = .returned (.int .i64 b) := by rw [h]

set_option maxHeartbeats 400000 in
theorem inText_any (c : Nat) (w : World) :
    Calls Tryz.prog 69 #[.int .i32 c] w fun e w' => e = .returned (.int .i32 (itself false c)) ∧ w = w' := by
  by_cases h : c = 13
  · subst h
    go_enter Tryz.func69, Tryz.ntmps69
    go_wp2
    go_ret
    exact ⟨rfl, rfl⟩
  · have hb : ((c : Int) == 13) = false := by rw [beq_eq_false_iff_ne]; omega
    have HI := hid (show itself false c = c from by unfold itself; rw [if_neg (by simp), if_neg h])
    clear h
    go_enter Tryz.func69, Tryz.ntmps69
    go_wp2
    go_ret
    exact ⟨ret_i32 (by rw [HI.out]), rfl⟩

set_option maxHeartbeats 400000 in
theorem inValue_any (c : Nat) (w : World) :
    Calls Tryz.prog 122 #[.int .i32 c] w fun e w' => e = .returned (.int .i32 (itself true c)) ∧ w = w' := by
  by_cases h : c = 9 ∨ c = 10 ∨ c = 13
  · rcases h with rfl | rfl | rfl
    all_goals
      go_enter Tryz.func122, Tryz.ntmps122
      go_wp2
      go_ret
      exact ⟨rfl, rfl⟩
  · have hb : ((c : Int) == 9) = false := by rw [beq_eq_false_iff_ne]; omega
    have hb2 : ((c : Int) == 10) = false := by rw [beq_eq_false_iff_ne]; omega
    have hb3 : ((c : Int) == 13) = false := by rw [beq_eq_false_iff_ne]; omega
    have HI := hid (show itself true c = c from by unfold itself; rw [if_pos rfl, if_neg h])
    clear h
    go_enter Tryz.func122, Tryz.ntmps122
    go_wp2
    go_ret
    exact ⟨ret_i32 (by rw [HI.out]), rfl⟩

/-- A digit's value, as the document's answer tells it: -1, if it is none. -/
def digZ (base : Nat) (b : UInt8) : Int := if isd base b = true then (dv b.toNat : Int) else -1

/-- What a text's text is. -/
theorem text_of (s : ByteArray) : ∃ l : List UInt8, s = text l ∧ l.length = s.size := ⟨s.data.toList, by cases s; rfl, (Lib.size_eq s).symm⟩
theorem text_get (l : List UInt8) (k : Nat) (hk : k < l.length) : (text l)[k]'(by rw [text_size]; exact hk) = l[k] := rfl
theorem text_list (l : List UInt8) : (text l).toList = l := by rw [Lib.toList_data, text_data]
theorem hasPre (p l : List UInt8) : Lib.hasPrefix (text l).data.toList (text p).data.toList = pre p l := by rw [text_data, text_data]; rfl
theorem pre_take (p l : List UInt8) : pre p l = (decide (p.length ≤ l.length) && (l.take p.length == p)) := by
  unfold pre
  rw [Bool.eq_iff_iff, List.isPrefixOf_iff_prefix]
  simp only [Bool.and_eq_true, decide_eq_true_eq, beq_iff_eq]
  constructor
  · rintro ⟨r, rfl⟩; simp
  · rintro ⟨h1, h2⟩; exact ⟨l.drop p.length, by rw [← h2]; simp; rw [Nat.min_eq_left h1]; exact List.take_append_drop _ _⟩

end Go.Proofs.YtdpknpgknbkiiaaGreatDoor.Ent
