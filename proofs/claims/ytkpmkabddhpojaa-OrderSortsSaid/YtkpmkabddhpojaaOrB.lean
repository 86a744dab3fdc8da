/- Layer 14: contracts: numbers, places, rising, cmp.Or. -/
import Derived.Test.YtkpmkabddhpojaaOrA
set_option linter.unusedVariables false
set_option linter.unusedSimpArgs false
namespace Go.Proofs.Ytkpmkabddhpojaa.Or
open Go Go.Proofs.Ytkpmkabddhpojaa Go.RowKit
set_option maxRecDepth 100000

theorem info3 {o : Option TypeInfo} {z : Value} {a b : Nat} (h : o.map (fun i => (i.zero, i.size, i.bytes)) = some (some z, a, b)) : ∃ i, o = some i ∧ i.zero = some z ∧ i.size = a ∧ i.bytes = b := by
  cases o with
  | none => cases h
  | some i => simp at h; exact ⟨i, rfl, h.1, h.2.1, h.2.2⟩
theorem infoI : (Try.prog.info? 3).map (fun i => (i.zero, i.size, i.bytes)) = some (some (.int .i64 0), 1, 8) := by kernel_rfl
theorem infoB : (Try.prog.info? 4).map (fun i => (i.zero, i.size, i.bytes)) = some (some (.bool false), 1, 1) := by kernel_rfl
theorem infoR : (Try.prog.info? 26).map (fun i => (i.zero, i.size, i.bytes)) = some (some (.slice none 0 0), 1, 24) := by kernel_rfl
theorem cells_made (z : Value) (hz : z.cells = #[z]) (n : Nat) : (madeCells z.cells (n * 1)).toList = List.replicate n z := by
  rw [hz, Nat.mul_one]
  apply List.ext_getElem
  · simp [size_madeCells]
  · intro i h1 h2
    simp [madeCells, Nat.mod_one]
/-- make: a row of zeros that the call owns. -/
theorem make_nums (n : Nat) (hn : n ≤ 1000000000) (B : Nat) (w : World) (hB : B ≤ w.heap.size) :
    ∃ w', (Instr.makeSlice 26 (.int .i64 (n : Int)) (.int .i64 (n : Int))).run Try.prog w = .ok (.slice (some ⟨w.heap.size, 0, none⟩) n n) w' ∧ w'.ownsRow B 3 1 (.slice (some ⟨w.heap.size, 0, none⟩) n n) (List.replicate n 0).length (nums (List.replicate n 0)) ∧ Below w.heap.size w w' ∧ w'.heap.size = w.heap.size + 1 := by
  obtain ⟨i, hi, hz, hs, hb⟩ := info3 infoI
  obtain ⟨w', h1, h2, h3⟩ := run_make_full (P := Try.prog) w B 26 3 i _ 1 Try.underlying26 hi hz hs .i64 .i64 n (by rw [hb]; omega) (by unfold maxLen; omega) hB
  have h4 := run_make (P := Try.prog) w 26 3 i _ Try.underlying26 hi hz .i64 .i64 n n (by omega) (Int.le_refl _) (by rw [hb]; omega) (by omega)
  have hw : w' = w.alloc (.cells (madeCells (Value.int .i64 0).cells (n * 1)) 3) := by
    rw [hs] at h4
    simp only [Int.toNat_natCast] at h4
    rw [h4] at h1
    injection h1 with _ h1
    exact h1.symm
  refine ⟨w', h1, ?_, by rw [hw]; exact ba (b0 w) _, by rw [hw]; simp⟩
  rw [cells_made _ rfl] at h2
  simpa [nums, encN] using h2
theorem make_bools (n : Nat) (hn : n ≤ 1000000000) (B : Nat) (w : World) (hB : B ≤ w.heap.size) :
    ∃ w', (Instr.makeSlice 46 (.int .i64 (n : Int)) (.int .i64 (n : Int))).run Try.prog w = .ok (.slice (some ⟨w.heap.size, 0, none⟩) n n) w' ∧ w'.ownsRow B 4 1 (.slice (some ⟨w.heap.size, 0, none⟩) n n) (List.replicate n false).length (bools (List.replicate n false)) ∧ Below w.heap.size w w' ∧ w'.heap.size = w.heap.size + 1 := by
  obtain ⟨i, hi, hz, hs, hb⟩ := info3 infoB
  obtain ⟨w', h1, h2, h3⟩ := run_make_full (P := Try.prog) w B 46 4 i _ 1 Try.underlying46 hi hz hs .i64 .i64 n (by rw [hb]; omega) (by unfold maxLen; omega) hB
  have h4 := run_make (P := Try.prog) w 46 4 i _ Try.underlying46 hi hz .i64 .i64 n n (by omega) (Int.le_refl _) (by rw [hb]; omega) (by omega)
  have hw : w' = w.alloc (.cells (madeCells (Value.bool false).cells (n * 1)) 4) := by
    rw [hs] at h4
    simp only [Int.toNat_natCast] at h4
    rw [h4] at h1
    injection h1 with _ h1
    exact h1.symm
  refine ⟨w', h1, ?_, by rw [hw]; exact ba (b0 w) _, by rw [hw]; simp⟩
  rw [cells_made _ rfl] at h2
  simpa using h2

theorem range_step (n k : Nat) (hk : k < n) : (List.range k ++ List.replicate (n - k) 0).set k k = List.range (k + 1) ++ List.replicate (n - (k + 1)) 0 := by
  obtain ⟨m, hm⟩ : ∃ m, n - k = m + 1 := ⟨n - k - 1, by omega⟩
  rw [hm, show n - (k + 1) = m from by omega, List.range_succ, List.set_append]
  simp [List.replicate_succ]
set_option maxHeartbeats 2000000 in
theorem numbers_any (n : Nat) (hn : n ≤ 1000000000) (w : World) :
    Calls Try.prog 23 #[.int .i64 n] w fun e w' => ∃ v, e = .returned v ∧ w'.ownsRow w.heap.size 3 1 v (List.range n).length (nums (List.range n)) ∧ Below w.heap.size w w' := by
  obtain ⟨V, hmk, ho, hb, hsz⟩ := make_nums n hn w.heap.size w (Nat.le_refl _)
  obtain ⟨v, hv⟩ : ∃ v, Value.slice (some ⟨w.heap.size, 0, none⟩) n n = v := ⟨_, rfl⟩
  rw [hv] at hmk ho
  have HO := hid ho
  have HB := hid hb
  clear ho hb hv
  have hlen : ∀ W, (Builtin.len_ #[26] 3 #[v]).run Try.prog W = .ok (.int .i64 n) W := fun W => by simpa using own_len (P := Try.prog) HO.out 26 3 Try.underlying26 W
  go_enter Try.func23, Try.ntmps23
  go_wp2
  go_loopg [9] n (fun kx s9 X => ∃ i : Nat, s9 = .int .i64 i ∧ i ≤ n ∧ n - i ≤ kx ∧ Hid (Below w.heap.size w X) ∧ Hid (X.ownsRow w.heap.size 3 1 v (List.range i ++ List.replicate (n - i) 0).length (nums (List.range i ++ List.replicate (n - i) 0))))
  case atStart => exact ⟨0, rfl, Nat.zero_le _, by omega, HB, by simpa using HO⟩
  case round =>
    rename World => X
    obtain ⟨i, rfl, hi, hg, BX, I⟩ := hrel
    by_cases hil : i < n
    · obtain ⟨b, hb1, hix, hc, hf, hBb, hlt, hset⟩ := own_at (P := Try.prog) I.out i (by simp; omega) 26 Try.underlying26 Try.sizeOf3
      have HS := hid (hset i)
      have HBX := hid (BX.out.setCell (p := ⟨b, i, none⟩) hBb (encN i))
      clear hset
      go_wp2
      go_roundg (n - (i + 1))
      case measure => omega
      case rel =>
        refine ⟨i + 1, by go_num, by omega, Nat.le_refl _, HBX, ?_⟩
        have := HS.out
        rw [range_step n i hil] at this
        exact hid this
    · obtain rfl : i = n := by omega
      have HE : X.ownsRow w.heap.size 3 1 v (List.range i).length (nums (List.range i)) := by simpa using I.out
      have HE' := hid HE
      clear HE
      go_wp2
      go_ret
      exact ⟨_, rfl, HE'.out, BX.out⟩

/-- Where in line each stands. -/
def placed (n : Nat) (l : List Nat) : Nat → List Nat
  | 0 => List.replicate n 0
  | k + 1 => (placed n l k).set (l.getD k 0) k
theorem placed_length (n : Nat) (l : List Nat) : ∀ k, (placed n l k).length = n
  | 0 => by simp [placed]
  | k + 1 => by simp [placed, placed_length n l k]
theorem placed_at {n : Nat} {l : List Nat} (hd : l.Nodup) (hl : ∀ x ∈ l, x < n) : ∀ k, k ≤ l.length → ∀ i (hi : i < k), (placed n l k).getD (l.getD i 0) 0 = i
  | 0, _, i, hi => by omega
  | k + 1, hk, i, hi => by
    have hkl : k < l.length := by omega
    have hil : i < l.length := by omega
    have e1 : l.getD i 0 = l[i] := by simp [hil]
    have e2 : l.getD k 0 = l[k] := by simp [hkl]
    have hlt : l[k] < (placed n l k).length := by rw [placed_length]; exact hl _ (List.getElem_mem hkl)
    rw [placed, e1, e2, List.getD_eq_getElem?_getD, List.getElem?_set]
    by_cases hik : i = k
    · subst hik; simp [hlt]
    · have hne : l[k] ≠ l[i] := fun e => hik ((List.getElem_inj (h₀ := hil) (h₁ := hkl) hd).1 e.symm)
      rw [if_neg hne]
      have := placed_at hd hl k (by omega) i (by omega)
      rw [e1, List.getD_eq_getElem?_getD] at this
      exact this
set_option maxHeartbeats 2000000 in
theorem places_any (x : Value) (l : List Nat) (w : World) (hx : Row 1 w x l.length (nums l)) (hn : l.length ≤ 1000000000) (hl : ∀ k ∈ l, k < l.length) :
    Calls Try.prog 27 #[x] w fun e w' => ∃ v, e = .returned v ∧ w'.ownsRow w.heap.size 3 1 v (placed l.length l l.length).length (nums (placed l.length l l.length)) ∧ Below w.heap.size w w' ∧ v.ownBlock = some w.heap.size := by
  obtain ⟨V, hmk, ho, hb, hsz⟩ := make_nums l.length hn w.heap.size w (Nat.le_refl _)
  have hlen := fun W => hx.len (P := Try.prog) 26 3 3 Try.underlying26 W
  obtain ⟨v, hv⟩ : ∃ v, Value.slice (some ⟨w.heap.size, 0, none⟩) l.length l.length = v := ⟨_, rfl⟩
  have HOB := hid (show v.ownBlock = some w.heap.size by rw [← hv]; rfl)
  rw [hv] at hmk ho
  have HO := hid ho
  have HB := hid hb
  have HL := hid hl
  have HX := hid hx
  clear ho hb hv hl hx
  go_enter Try.func27, Try.ntmps27
  go_wp2
  go_loopg [11] l.length (fun kx s9 X => ∃ i : Nat, s9 = .int .i64 i ∧ i ≤ l.length ∧ l.length - i ≤ kx ∧ Hid (Below w.heap.size w X) ∧ Hid (X.ownsRow w.heap.size 3 1 v (placed l.length l i).length (nums (placed l.length l i))))
  case atStart => exact ⟨0, rfl, Nat.zero_le _, by omega, HB, HO⟩
  case round =>
    rename World => X
    obtain ⟨i, rfl, hi, hg, BX, I⟩ := hrel
    by_cases hil : i < l.length
    · have hxX := HX.out.below BX.out (Nat.le_refl _)
      obtain ⟨b2, o2, hix2, hc2⟩ := row_at (P := Try.prog) hxX i hil 26 3 Try.underlying26 Try.sizeOf3
      simp only [encN] at hc2
      have hyl := HL.out _ (List.getElem_mem hil)
      have hst : placed l.length l (i + 1) = (placed l.length l i).set l[i] i := by rw [placed]; simp [hil]
      generalize l[i] = y at *
      obtain ⟨b, hb1, hix, hc, hf, hBb, hlt, hset⟩ := own_at (P := Try.prog) I.out y (by rw [placed_length]; exact hyl) 26 Try.underlying26 Try.sizeOf3
      have HS := hid (hset i)
      have HST := hid hst
      have HBX := hid (BX.out.setCell (p := ⟨b, y, none⟩) hBb (encN i))
      clear hset hst hxX
      go_wp2
      go_roundg (l.length - (i + 1))
      case measure => omega
      case rel =>
        refine ⟨i + 1, by go_num, by omega, Nat.le_refl _, HBX, ?_⟩
        rw [HST.out]
        exact hid HS.out
    · obtain rfl : i = l.length := by omega
      go_wp2
      go_ret
      exact ⟨_, rfl, I.out, BX.out, HOB.out⟩

/-- Onto numbers that the call owns one more is appended, out of a block of its own. -/
theorem append_num (B : Nat) (w : World) (v : Value) (l : List Nat) (k : Nat) (ho : w.ownsRow B 3 1 v l.length (nums l)) (hl : l.length ≤ 1000000000) (hB : B ≤ w.heap.size) {g : Nat} (hg : w.heap[g]? = some (.cells #[encN k] 3)) (t : TypeId) (ht : Try.prog.underlying t = some (.slice 3)) :
    ∃ v' w', (∀ ty, (Builtin.append_ #[t, t] ty #[v, .slice (some ⟨g, 0, none⟩) 1 1]).run Try.prog w = .ok v' w') ∧ w'.ownsRow B 3 1 v' (l ++ [k]).length (nums (l ++ [k])) ∧ w.grownBy w' v.ownBlock ∧ (v'.ownBlock = v.ownBlock ∨ v'.ownBlock = some w.heap.size) := by
  obtain ⟨i, hi, hz, hs, hb⟩ := info3 infoI
  have hn : ∀ j u, [encN k][j]? = some u → w.cell? ((⟨g, 0, none⟩ : Addr).add j) = some u := by
    intro j u hj
    match j, hj with
    | 0, hj =>
      simp at hj
      subst hj
      rw [Addr.add_lit, Lib.cell_of_heap hg]
      rfl
  obtain ⟨v', w', h1, h2, h3, _, h5⟩ := run_append_own_at (P := Try.prog) (w := w) B t 0 3 i _ 1 8 ht hi hz hs hb rfl (by omega) v l.length (nums l) ho ⟨g, 0, none⟩ 1 1 [encN k] rfl hn (by intro u hu; simp [encN] at hu; subst hu; rfl) (by unfold maxLen; omega) (by omega) hB
  refine ⟨v', w', fun ty => ?_, ?_, h3, h5⟩
  · exact h1
  · simpa using h2
end Go.Proofs.Ytkpmkabddhpojaa.Or
