/- Layer 10: what the kinds ask: contracts of the functions in their rows. -/
import Derived.Test.YtkmdclfkmmlloaaGreatDoorXpMem
import Derived.Test.YtkmdclfkmmlloaaGreatDoorXbX
import Derived.Test.YtkmdclfkmmlloaaGreatDoorConv
import Derived.Deep.LoopGhost
import Derived.Deep.QuietTactic
import Derived.BigQuiet
set_option linter.unusedVariables false
set_option linter.unusedSimpArgs false
namespace Go.Proofs.YtkmdclfkmmlloaaGreatDoor.Xp
open Go Go.Proofs.YtkmdclfkmmlloaaGreatDoor Go.Proofs.YtkmdclfkmmlloaaGreatDoor.Utf Go.Proofs.YtkmdclfkmmlloaaGreatDoor.Names Go.RowKit
set_option maxRecDepth 100000

theorem unless_any (a : Bool) (n : Int) (w : World) : Calls Tryz.prog 129 #[.bool a, .int .i64 n] w fun e w' => e = .returned (.int .i64 (if a then 0 else n)) ∧ w' = w := by
  cases a
  all_goals (
    go_enter Tryz.func129, Tryz.ntmps129
    go_wp2
    go_ret
    exact ⟨rfl, rfl⟩)
theorem none_any (n : Nat) (w : World) : Calls Tryz.prog 89 #[.int .i64 n] w fun e w' => e = .returned (.bool (n == 0)) ∧ w' = w := by
  have h : ((n : Int) == 0) = (n == 0) := by rw [Bool.eq_iff_iff]; simp only [beq_iff_eq, decide_eq_true_eq]; constructor <;> (intro h; omega)
  have H := hid h
  clear h
  go_enter Tryz.func89, Tryz.ntmps89
  go_wp2
  go_ret
  exact ⟨congrArg (fun b => Ending.returned (Value.bool b)) H.out, rfl⟩
theorem one_any (n : Nat) (w : World) : Calls Tryz.prog 95 #[.int .i64 n] w fun e w' => e = .returned (.bool (n == 1)) ∧ w' = w := by
  have h : ((n : Int) == 1) = (n == 1) := by rw [Bool.eq_iff_iff]; simp only [beq_iff_eq, decide_eq_true_eq]; constructor <;> (intro h; omega)
  have H := hid h
  clear h
  go_enter Tryz.func95, Tryz.ntmps95
  go_wp2
  go_ret
  exact ⟨congrArg (fun b => Ending.returned (Value.bool b)) H.out, rfl⟩
theorem two_any (n : Nat) (w : World) : Calls Tryz.prog 97 #[.int .i64 n] w fun e w' => e = .returned (.bool (n == 2)) ∧ w' = w := by
  have h : ((n : Int) == 2) = (n == 2) := by rw [Bool.eq_iff_iff]; simp only [beq_iff_eq, decide_eq_true_eq]; constructor <;> (intro h; omega)
  have H := hid h
  clear h
  go_enter Tryz.func97, Tryz.ntmps97
  go_wp2
  go_ret
  exact ⟨congrArg (fun b => Ending.returned (Value.bool b)) H.out, rfl⟩
theorem three_any (n : Nat) (w : World) : Calls Tryz.prog 98 #[.int .i64 n] w fun e w' => e = .returned (.bool (n == 3)) ∧ w' = w := by
  have h : ((n : Int) == 3) = (n == 3) := by rw [Bool.eq_iff_iff]; simp only [beq_iff_eq, decide_eq_true_eq]; constructor <;> (intro h; omega)
  have H := hid h
  clear h
  go_enter Tryz.func98, Tryz.ntmps98
  go_wp2
  go_ret
  exact ⟨congrArg (fun b => Ending.returned (Value.bool b)) H.out, rfl⟩
theorem some_any (n : Nat) (w : World) : Calls Tryz.prog 99 #[.int .i64 n] w fun e w' => e = .returned (.bool (decide (0 < n))) ∧ w' = w := by
  have h : decide ((0 : Int) < (n : Int)) = (decide (0 < n)) := by rw [Bool.eq_iff_iff]; simp only [beq_iff_eq, decide_eq_true_eq]; constructor <;> (intro h; omega)
  have H := hid h
  clear h
  go_enter Tryz.func99, Tryz.ntmps99
  go_wp2
  go_ret
  first | exact ⟨congrArg (fun b => Ending.returned (Value.bool b)) H.out, rfl⟩ | exact ⟨rfl, rfl⟩
theorem every_any (v : Value) (w : World) : Calls Tryz.prog 101 #[v] w fun e w' => e = .returned (.bool true) ∧ w' = w := by
  go_enter Tryz.func101, Tryz.ntmps101
  go_wp2
  go_ret
  exact ⟨rfl, rfl⟩
theorem unnamed_any (n : Nat) (v : Value) (w : World) : Calls Tryz.prog 90 #[.int .i64 n, v] w fun e w' => e = .returned (.bool (n == 0)) ∧ w' = w := by
  have h : ((n : Int) == 0) = (n == 0) := by rw [Bool.eq_iff_iff]; simp only [beq_iff_eq, decide_eq_true_eq]; constructor <;> (intro h; omega)
  have H := hid h
  clear h
  go_enter Tryz.func90, Tryz.ntmps90
  go_wp2
  go_ret
  exact ⟨congrArg (fun b => Ending.returned (Value.bool b)) H.out, rfl⟩
theorem named_any (u v : Value) (w : World) : Calls Tryz.prog 100 #[u, v] w fun e w' => e = .returned (.bool true) ∧ w' = w := by
  go_enter Tryz.func100, Tryz.ntmps100
  go_wp2
  go_ret
  exact ⟨rfl, rfl⟩
theorem allNamed_any (m n : Nat) (w : World) : Calls Tryz.prog 102 #[.int .i64 m, .int .i64 n] w fun e w' => e = .returned (.bool (m == n)) ∧ w' = w := by
  have h : ((m : Int) == (n : Int)) = (m == n) := by rw [Bool.eq_iff_iff]; simp only [beq_iff_eq, decide_eq_true_eq]; constructor <;> (intro h; omega)
  have H := hid h
  clear h
  go_enter Tryz.func102, Tryz.ntmps102
  go_wp2
  go_ret
  exact ⟨congrArg (fun b => Ending.returned (Value.bool b)) H.out, rfl⟩
theorem empty_any (s : Nam) (w : World) : Calls Tryz.prog 96 #[.string (text s)] w fun e w' => e = .returned (.int .i64 (if s = [] then 0 else 17)) ∧ Below w.heap.size w w' := by
  obtain ⟨r, hr⟩ : ∃ r : Int, (if s = [] then 0 else 17) = r := ⟨_, rfl⟩
  have HU := unless_any (text s).toList.isEmpty 17 w
  rw [show (if (text s).toList.isEmpty = true then (0 : Int) else 17) = r from by rw [← hr, Names.text_list]; cases s <;> simp] at HU
  rw [hr]
  replace HU := hid HU
  clear hr
  go_enter Tryz.func96, Tryz.ntmps96
  go_wp2_with fail
  refine HU.out.mono ?_
  rintro e w1 ⟨rfl, rfl⟩
  go_wp2
  go_ret
  exact ⟨rfl, b0 _⟩
theorem name_any (s : Nam) (hs : s.length ≤ 2000000) (w : World) : Calls Tryz.prog 94 #[.string (text s)] w fun e w' => e = .returned (.int .i64 (if rightB s then 0 else 6)) ∧ Below w.heap.size w w' := by
  obtain ⟨n, hn⟩ : ∃ n : Int, (if rightB s then 0 else 6) = n := ⟨_, rfl⟩
  have HR := hid (Names.Right_any s hs w)
  have HU := hid (fun w => unless_any (rightB s) 6 w)
  rw [hn] at HU ⊢
  clear hn
  generalize rightB s = r at *
  go_enter Tryz.func94, Tryz.ntmps94
  go_wp2_with fail
  refine HR.out.mono ?_
  rintro e w1 ⟨rfl, hb⟩
  have HB := hid hb
  clear hb
  go_wp2_with fail
  refine (HU.out _).mono ?_
  rintro e w2 ⟨rfl, rfl⟩
  go_wp2
  go_ret
  exact ⟨rfl, HB.out⟩
theorem characters_any (s : Nam) (hs : s.length ≤ 2000000) (w : World) : Calls Tryz.prog 92 #[.string (text s)] w fun e w' => e = .returned (.int .i64 (Utf.checkE s)) ∧ Below w.heap.size w w' := by
  obtain ⟨v, w1, hcv, hv, hb1, _⟩ := conv_at (P := Tryz.prog) s (by omega) 9 53 5 under9 underB under8 w
  have HC := hid (Utf.Check_any v s w1 (hv w1 rfl))
  have HB := hid hb1
  clear hv hb1
  go_enter Tryz.func92, Tryz.ntmps92
  go_wp2_with fail
  refine HC.out.mono ?_
  rintro e w2 ⟨rfl, hb2⟩
  have HB2 := hid (bt HB.out hb2)
  clear hb2
  go_wp2
  go_ret
  exact ⟨rfl, HB2.out⟩
theorem contains_any {w : World} {v : Value} {l : List Nam} (h : Strs w v l) (x : Nam) : Calls Tryz.prog 131 #[v, .string (text x)] w fun e w' => e = .returned (.bool (decide (x ∈ l))) ∧ w' = w := by
  obtain ⟨⟨a, c, hv, h1, h2, h3, h4, h5⟩, h6⟩ := h
  subst hv
  cases l with
  | nil => simpa using Tryz.slices_Contains_string_empty a c (text x) w
  | cons y l =>
    obtain ⟨b, off, rfl, hc⟩ := h5 (by simp [strsOf])
    have h7 := Tryz.slices_Contains_string b off (y :: l).length c ((y :: l).map text) (text x) w (by simp) (by omega) (fun j hj => by
      have hj' : j < (y :: l).length := by simpa using hj
      refine hc j _ ?_
      simp only [strsOf, List.getElem?_map, List.getElem?_eq_getElem hj', Option.map_some, List.getD_eq_getElem?_getD]
      rfl)
    have e1 : Lib.containsS (((y :: l).map text).take (y :: l).length) (text x) = decide (x ∈ y :: l) := by
      have e2 : ((y :: l).map text).take (y :: l).length = (y :: l).map text := List.take_of_length_le (by simp)
      rw [e2, Bool.eq_iff_iff, Lib.containsS_iff, decide_eq_true_iff, List.mem_map]
      constructor
      · rintro ⟨z, hz, e⟩
        have : z = x := by have := congrArg (fun b : ByteArray => b.data.toList) e; simpa [text_data] using this
        rw [← this]; exact hz
      · intro h; exact ⟨x, h, rfl⟩
    rw [e1] at h7
    exact h7
theorem oneOf_any (v : Value) (w : World) (hv : ∃ o n c, v = .slice o n c) : Calls Tryz.prog 93 #[v] w fun e w' => e = .returned (.func (.func 130) #[] #[.pointer (some ⟨w.heap.size, 0, none⟩)]) ∧ w' = w.alloc (.cells #[v] 22) := by
  obtain ⟨o, n, c, rfl⟩ := hv
  go_enter Tryz.func93, Tryz.ntmps93
  go_wp2
  go_ret
  exact ⟨rfl, rfl⟩
theorem among_any {w : World} {c : Nat} {v : Value} {l : List Nam} (h : w.heap[c]? = some (.cells #[v] 22 (0, 0))) (hv : Strs w v l) (s : Nam) :
    Calls Tryz.prog 130 #[.string (text s), .pointer (some ⟨c, 0, none⟩)] w fun e w' => e = .returned (.int .i64 (if s ∈ l then 0 else 17)) ∧ Below w.heap.size w w' := by
  have c0 : w.cell? ⟨c, 0, none⟩ = some v := by rw [Lib.cell_of_heap h]; rfl
  have HC := hid (contains_any hv s)
  obtain ⟨r, hr⟩ : ∃ r : Int, (if s ∈ l then 0 else 17) = r := ⟨_, rfl⟩
  have HU := unless_any (decide (s ∈ l)) 17 w
  rw [show (if decide (s ∈ l) = true then (0 : Int) else 17) = r from by rw [← hr]; simp] at HU
  rw [hr]
  replace HU := hid HU
  obtain ⟨d, hd⟩ : ∃ d, decide (s ∈ l) = d := ⟨_, rfl⟩
  rw [hd] at HC HU
  clear h hv hd hr
  go_enter Tryz.func130, Tryz.ntmps130
  go_wp2_with fail
  refine HC.out.mono ?_
  rintro e w1 ⟨rfl, rfl⟩
  go_wp2_with fail
  refine HU.out.mono ?_
  rintro e w2 ⟨rfl, rfl⟩
  go_wp2
  go_ret
  exact ⟨rfl, b0 _⟩
end Go.Proofs.YtkmdclfkmmlloaaGreatDoor.Xp
