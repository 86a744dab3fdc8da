/- Layer 9: as many names as there may be. -/
import Derived.Test.YthggoohchjifnaaDoorScP
import Derived.Laws.Bits128
set_option linter.unusedVariables false
set_option linter.unusedSimpArgs false
namespace Go.Proofs.YthggoohchjifnaaDoor.Sc
open Go Go.Proofs.YthggoohchjifnaaDoor Go.Proofs.YthggoohchjifnaaDoor.Utf Go.Proofs.YthggoohchjifnaaDoor.Names Go.RowKit
set_option maxRecDepth 100000

/-- The name of a number. -/
def nameOf (i : Nat) : List UInt8 := [110, UInt8.ofNat (97 + i % 16), UInt8.ofNat (97 + i / 16 % 16), UInt8.ofNat (97 + i / 256)]
theorem name_right_all : ((List.range 4099).all fun i => rightB (nameOf i)) = true := by decide +kernel
theorem name_right {i : Nat} (h : i < 4099) : rightB (nameOf i) = true := List.all_eq_true.1 name_right_all i (List.mem_range.2 h)
theorem of_inj {a b : Nat} (ha : a < 256) (hb : b < 256) (h : UInt8.ofNat a = UInt8.ofNat b) : a = b := by
  have := congrArg UInt8.toNat h
  simpa [Nat.mod_eq_of_lt ha, Nat.mod_eq_of_lt hb] using this
theorem name_inj {i j : Nat} (hi : i < 4099) (hj : j < 4099) (h : nameOf i = nameOf j) : i = j := by
  unfold nameOf at h
  injection h with _ h
  injection h with h1 h
  injection h with h2 h
  injection h with h3 _
  have e1 := of_inj (by omega) (by omega) h1
  have e2 := of_inj (by omega) (by omega) h2
  have e3 := of_inj (by omega) (by omega) h3
  omega
/-- The first so many. -/
def manyN (k : Nat) : List (List UInt8) := (List.range k).map nameOf
theorem many_nodup {k : Nat} (h : k ≤ 4099) : (manyN k).Nodup := by
  unfold manyN
  refine List.pairwise_map.2 (List.Pairwise.imp_of_mem ?_ (List.nodup_range (n := k)))
  intro a b ha hb hne e
  exact hne (name_inj (by have := List.mem_range.1 ha; omega) (by have := List.mem_range.1 hb; omega) e)
theorem many_mem {k : Nat} {z : List UInt8} (h : z ∈ manyN k) : ∃ i, i < k ∧ z = nameOf i := by
  obtain ⟨i, hi, rfl⟩ := List.mem_map.1 h
  exact ⟨i, List.mem_range.1 hi, rfl⟩
theorem many_len (k : Nat) : (manyN k).length = k := by simp [manyN]
theorem many_succ (k : Nat) : manyN (k + 1) = manyN k ++ [nameOf k] := by simp [manyN, List.range_succ]
theorem put_len {N m : List (List UInt8)} (hN : Rise N) (h : (N ++ m).Nodup) : (put N m).length = N.length + m.length := by
  have : (put N m).Perm (N ++ m) := (List.perm_ext_iff_of_nodup (put_rise m hN).nodup h).2 fun z => by rw [put_mem, List.mem_append]
  rw [this.length_eq, List.length_append]
theorem put_old {N m : List (List UInt8)} (hN : Rise N) (h : ∀ z ∈ m, z ∈ N) : put N m = N :=
  Rise.unique (put_rise m hN) hN fun z => by rw [put_mem]; exact ⟨fun h2 => h2.elim id (h z), .inl⟩
theorem and15 (n : Nat) (h : n < 5000) : bits .and .i64 (n : Int) 15 = ((n % 16 : Nat) : Int) := by
  have key : (List.range 5000).all (fun n => bits .and .i64 (n : Int) 15 == ((n % 16 : Nat) : Int)) = true := by decide +kernel
  simpa using List.all_eq_true.1 key n (List.mem_range.2 h)
def xyz : List (List UInt8) := [[120], [121], [122]]
theorem xyz_right : xyz.all rightB = true := by decide +kernel
end Go.Proofs.YthggoohchjifnaaDoor.Sc
