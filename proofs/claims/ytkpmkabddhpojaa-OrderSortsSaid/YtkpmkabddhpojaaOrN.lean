/- Layer 14: what the statements share: same, great, alive. -/
import Derived.Test.YtkpmkabddhpojaaOrM
set_option linter.unusedVariables false
set_option linter.unusedSimpArgs false
namespace Go.Proofs.Ytkpmkabddhpojaa.Or
open Go Go.Proofs.Ytkpmkabddhpojaa Go.RowKit
set_option maxRecDepth 100000

theorem sorted_unique {S : List (List UInt8)} : ∀ {a b : List Nat}, a.Pairwise (fun x y => lexB S x y = true) → b.Pairwise (fun x y => lexB S x y = true) → (∀ x, x ∈ a ↔ x ∈ b) → a = b
  | [], [], _, _, _ => rfl
  | [], y :: b, _, _, h => by have := (h y).2 (by simp); cases this
  | x :: a, [], _, _, h => by have := (h x).1 (by simp); cases this
  | x :: a, y :: b, ha, hb, h => by
    rw [List.pairwise_cons] at ha hb
    have hx := (h x).1 (by simp)
    have hy := (h y).2 (by simp)
    have e : x = y := by
      rcases List.mem_cons.1 hx with q | q
      · exact q
      · rcases List.mem_cons.1 hy with r | r
        · exact r.symm
        · have h1 := ha.1 y r
          have h2 := hb.1 x q
          rw [lex_asymm h1] at h2; cases h2
    subst e
    have nx : ∀ {l : List Nat}, (∀ z ∈ l, lexB S x z = true) → x ∉ l := fun hl hm => by
      have := hl x hm; rw [lex_irrefl] at this; cases this
    rw [sorted_unique ha.2 hb.2 fun z => ?_]
    constructor
    · intro hz
      rcases List.mem_cons.1 ((h z).1 (List.mem_cons_of_mem _ hz)) with q | q
      · subst q; exact absurd hz (nx ha.1)
      · exact q
    · intro hz
      rcases List.mem_cons.1 ((h z).2 (List.mem_cons_of_mem _ hz)) with q | q
      · subst q; exact absurd hz (nx hb.1)
      · exact q
theorem ByName.unique {S : List (List UInt8)} {a b : List Nat} (h : ByName S a) (k : ByName S b) : a = b :=
  sorted_unique h.2 k.2 fun x => ⟨fun hx => k.1.all x (h.1.lt x hx), fun hx => h.1.all x (k.1.lt x hx)⟩

set_option maxHeartbeats 2000000 in
theorem same_any (x y : Value) (l m : List Nat) (w : World) (hx : Row 1 w x l.length (nums l)) (hy : Row 1 w y m.length (nums m)) :
    Calls Try.prog 13 #[x, y] w fun e w' => e = .returned (.bool (decide (l = m))) ∧ Below w.heap.size w w' := by
  have mixed : Try.prog.follows Departure.mixedOrders = true := by kernel_rfl
  have hlx := fun W => hx.len (P := Try.prog) 26 3 3 Try.underlying26 W
  have hly := fun W => hy.len (P := Try.prog) 26 3 3 Try.underlying26 W
  have hle := hx.le
  have hle2 := hy.le
  have HX := hid hx
  have HY := hid hy
  obtain ⟨r, hr⟩ : ∃ r, decide (l = m) = r := ⟨_, rfl⟩
  rw [hr]
  have HR := hid hr
  clear hx hy hr
  by_cases hlm : l.length = m.length
  · rw [← hlm] at hly
    have HLM := hid hlm
    clear hlm
    go_enter Try.func13, Try.ntmps13
    go_wp2_with fail
    go_loopg [13] l.length (fun kx s13 X => ∃ i : Nat, s13 = .int .i64 i ∧ i ≤ l.length ∧ l.length - i ≤ kx ∧ Hid (Below w.heap.size w X) ∧ Hid (l.take i = m.take i))
    case atStart => exact ⟨0, rfl, Nat.zero_le _, by omega, hid (b0 w), hid rfl⟩
    case round =>
      rename World => X
      obtain ⟨i, rfl, hi, hg, BX, I⟩ := hrel
      by_cases hil : i < l.length
      · have him : i < m.length := by rw [← HLM.out]; exact hil
        obtain ⟨b1, o1, hi1, hc1⟩ := row_at (P := Try.prog) (HX.out.below BX.out (Nat.le_refl _)) i hil 26 3 Try.underlying26 Try.sizeOf3
        obtain ⟨b2, o2, hi2, hc2⟩ := row_at (P := Try.prog) (HY.out.below BX.out (Nat.le_refl _)) i him 26 3 Try.underlying26 Try.sizeOf3
        simp only [encN] at hc1 hc2
        have HS := hid (fun (h : l[i] = m[i]) => show l.take (i + 1) = m.take (i + 1) by rw [List.take_succ_eq_append_getElem hil, List.take_succ_eq_append_getElem him, I.out, h])
        have HN := hid (fun (h : l[i] ≠ m[i]) => show l ≠ m from fun e => h (by subst e; rfl))
        generalize l[i] = p at *
        generalize m[i] = q at *
        by_cases hpq : p = q
        · subst hpq
          go_wp2_with fail
          go_region
          all_goals go_wp2_with fail
          all_goals go_roundg (l.length - (i + 1))
          all_goals first | omega | exact ⟨i + 1, by go_num, by omega, Nat.le_refl _, hid BX.out.drew, hid (HS.out (by first | rfl | trivial))⟩
        · have hpq' : (p : Int) ≠ q := by omega
          have HF := hid (HN.out hpq)
          go_wp2_with fail
          go_region
          all_goals go_wp2_with fail
          all_goals go_ret
          all_goals exact ⟨by rw [← HR.out, decide_eq_false HF.out]; rfl, BX.out.drew⟩
      · have HE := hid (show l = m by have := I.out; rwa [List.take_of_length_le (by omega), List.take_of_length_le (by have := HLM.out; omega)] at this)
        go_wp2
        go_ret
        exact ⟨by rw [← HR.out, decide_eq_true HE.out]; rfl, BX.out⟩
  · have hlm' : (l.length : Int) ≠ m.length := by omega
    have HF := hid (show l ≠ m from fun e => hlm (by rw [e]))
    clear hlm
    go_enter Try.func13, Try.ntmps13
    go_wp2
    go_ret
    exact ⟨by rw [← HR.out, decide_eq_false HF.out]; rfl, b0 w⟩

def massI (M : List (List Int)) : Nat := (M.map List.length).sum
theorem massI_take (M : List (List Int)) (k : Nat) (hk : k < M.length) : massI (M.take (k + 1)) = massI (M.take k) + M[k].length := by
  unfold massI
  rw [List.take_succ_eq_append_getElem hk, List.map_append, List.map_singleton, List.sum_append]; simp
theorem massI_le (M : List (List Int)) (k : Nat) : massI (M.take k) ≤ massI M := by
  have : massI M = massI (M.take k) + massI (M.drop k) := by
    have e := List.take_append_drop k M
    have : massI (M.take k ++ M.drop k) = massI (M.take k) + massI (M.drop k) := by simp only [massI, List.map_append, List.sum_append]
    rwa [e] at this
  omega
theorem massI_toI (N : List (List Nat)) : massI (toI N) = mass N := by simp [massI, toI, mass, Function.comp_def]
set_option maxHeartbeats 2000000 in
theorem great_any {D : Nat → Prop} (v : Value) (M : List (List Int)) (w : World) (hv : Nd encI D w v M) (hn : M.length + massI M ≤ 1000000000) :
    Calls Try.prog 10 #[v] w fun e w' => e = .returned (.bool (decide (300 < M.length + massI M))) ∧ w = w' := by
  have hlen := fun W => hv.len (P := Try.prog) 23 3 26 Try.underlying23 W
  have V := hid hv
  obtain ⟨r, hr⟩ : ∃ r, decide (300 < M.length + massI M) = r := ⟨_, rfl⟩
  rw [hr]
  have HR := hid hr
  clear hv hr
  go_enter Try.func10, Try.ntmps10
  go_wp2
  go_loopg [3, 10] M.length (fun kx s3 s10 wr => ∃ i c : Nat, s3 = .int .i64 c ∧ s10 = .int .i64 i ∧ i ≤ M.length ∧ M.length - i ≤ kx ∧ w = wr ∧ c ≤ 1000000000 ∧ Hid (c = M.length + massI (M.take i)))
  case atStart => exact ⟨0, M.length, rfl, rfl, Nat.zero_le _, by omega, rfl, by omega, hid (by simp [massI])⟩
  case round =>
    obtain ⟨i, c, rfl, rfl, hi, hg, rfl, hcb, I⟩ := hrel
    by_cases hil : i < M.length
    · obtain ⟨b, o, x, hix, hc, hx⟩ := V.out.at (P := Try.prog) i hil 23 26 Try.underlying23 Try.sizeOf26
      have hlen2 := fun W => hx.1.len (P := Try.prog) 26 3 3 Try.underlying26 W
      have hst := massI_take M i hil
      have hml := massI_le M (i + 1)
      generalize M[i].length = n at *
      have HC := hid (show c + n = M.length + massI (M.take (i + 1)) by rw [I.out, hst]; omega)
      have hcn : c + n ≤ 1000000000 := by have := HC.out; omega
      clear hst hx hml
      go_wp2
      go_roundg (M.length - (i + 1))
      case measure => omega
      case rel => exact ⟨i + 1, c + n, by go_num, by go_num, by omega, Nat.le_refl _, rfl, by omega, HC⟩
    · obtain rfl : i = M.length := by omega
      have HE := hid (show c = M.length + massI M by have := I.out; rwa [List.take_of_length_le (Nat.le_refl _)] at this)
      have HD := hid (show decide (300 < (c : Int)) = r by rw [← HR.out, ← HE.out]; simp only [decide_eq_decide]; omega)
      go_wp2
      go_ret
      exact ⟨by rw [← HD.out]; rfl, rfl⟩

/-! alive -/
section
variable {D : Nat → Prop} {nv v : Value} {w : World}
theorem alive_one (hs : Strs w nv [[98], [97], [99]]) (hv : Nd encN D w v [[2], [], []]) :
    Calls Try.prog 11 #[nv, v] w fun e w' => ∃ r, e = .returned (.tuple #[r, .int .i64 0]) ∧ w'.ownsRow w.heap.size 3 1 r [1, 2, 0].length (nums [1, 2, 0]) ∧ Below w.heap.size w w' := by
  refine (Sort_ok hs hv rfl (by unfold Right; decide) (by decide)).mono ?_
  rintro e w' ⟨line, out, hb, hd, ⟨r, ho, he⟩, hw⟩
  have hl : line = [1, 0, 2] := hb.unique ⟨⟨rfl, by decide, by decide⟩, by decide⟩
  subst hl
  have hout : out = [1, 2, 0] := hd.unique ⟨.step (out := [1, 2]) (.step (out := [1]) (.step (out := []) .nil (by decide)) (by decide)) (by decide), by decide⟩
  subst hout
  exact ⟨r, he, ho, hw⟩
theorem alive_two (hs : Strs w nv [[97], [98]]) (hv : Nd encN D w v [[1], [0]]) :
    Calls Try.prog 11 #[nv, v] w fun e w' => e = .returned (.tuple #[.slice none 0 0, .int .i64 16]) ∧ Below w.heap.size w w' := by
  refine (Sort_ok hs hv rfl (by unfold Right; decide) (by decide)).mono ?_
  rintro e w' ⟨line, out, hb, hd, ⟨r, ho, he⟩, hw⟩
  have hl : line = [0, 1] := hb.unique ⟨⟨rfl, by decide, by decide⟩, by decide⟩
  subst hl
  have hout : out = [] := hd.unique ⟨.nil, by decide⟩
  subst hout
  exact ⟨he, hw⟩
end
theorem row_lit {w : World} {g : Nat} {cs : List Value} {e : TypeId} (n : Nat) (h : w.heap[g]? = some (.cells cs.toArray e)) (hn : cs.length = n) (hl : n ≤ 1000) : Row 1 w (.slice (some ⟨g, 0, none⟩) n n) n cs := by
  refine ⟨⟨_, n, rfl, Nat.le_refl _, by unfold maxLen; omega, by omega, (fun e => by cases e), fun _ => ⟨g, 0, rfl, fun j u hj => ?_⟩⟩, by omega⟩
  rw [Lib.cell_of_heap h]
  simpa using hj
set_option maxHeartbeats 4000000 in
theorem alive_any (w : World) :
    Calls Try.prog 9 #[] w fun e w' => e = .returned (.bool true) ∧ Below w.heap.size w w' := by
  obtain ⟨Y1, hY1⟩ : ∃ Y, w.alloc (.cells #[.string ⟨#[98]⟩, .string ⟨#[97]⟩, .string ⟨#[99]⟩] 9) = Y := ⟨_, rfl⟩
  have B1 : Below w.heap.size w Y1 := hY1 ▸ ba (b0 w) _
  have P1 : Y1.heap[w.heap.size]? = some (.cells (strsOf [[98], [97], [99]]).toArray 9) := hY1 ▸ heap_alloc_new w _
  obtain ⟨Y2, hY2⟩ : ∃ Y, Y1.alloc (.cells #[.int .i64 2] 3) = Y := ⟨_, rfl⟩
  have B2 : Below Y1.heap.size Y1 Y2 := hY2 ▸ ba (b0 Y1) _
  have P2 : Y2.heap[Y1.heap.size]? = some (.cells (nums [2]).toArray 3) := hY2 ▸ heap_alloc_new Y1 _
  obtain ⟨Y3, hY3⟩ : ∃ Y, Y2.alloc (.cells #[.slice (some ⟨Y1.heap.size, 0, none⟩) 1 1, .slice none 0 0, .slice none 0 0] 26) = Y := ⟨_, rfl⟩
  have B3 : Below Y2.heap.size Y2 Y3 := hY3 ▸ ba (b0 Y2) _
  have P3 : Y3.heap[Y2.heap.size]? = some (.cells ([.slice (some ⟨Y1.heap.size, 0, none⟩) 1 1, .slice none 0 0, .slice none 0 0] : List Value).toArray 26) := hY3 ▸ heap_alloc_new Y2 _
  have P2' := (B3.block _ (lt_of_at P2)).trans P2
  have P1' := (B3.block _ (by have := lt_of_at P1; have := B2.size; omega)).trans ((B2.block _ (lt_of_at P1)).trans P1)
  have hs : Strs Y3 (.slice (some ⟨w.heap.size, 0, none⟩) 3 3) [[98], [97], [99]] := row_lit 3 P1' rfl (by omega)
  have hv : Nd encN (fun _ => True) Y3 (.slice (some ⟨Y2.heap.size, 0, none⟩) 3 3) [[2], [], []] := by
    refine ⟨_, RowD.of (row_lit 3 P3 rfl (by omega)), fun i hi => ?_⟩
    match i, hi with
    | 0, _ => exact ⟨_, rfl, RowD.of (row_lit (cs := nums [2]) 1 P2' rfl (by omega))⟩
    | 1, _ => exact ⟨_, rfl, RowD.of (Row.nil 1 Y3)⟩
    | 2, _ => exact ⟨_, rfl, RowD.of (Row.nil 1 Y3)⟩
  have A1 := hid (alive_one hs hv)
  have HB3 := hid (bt B1 (bt B2 B3))
  clear hs hv P1' P2' P3 B3 P2 B2 P1 B1
  go_enter Try.func9, Try.ntmps9
  go_wp2_with fail
  refine A1.out.mono ?_
  rintro e w4 ⟨r, rfl, ho4, b4⟩
  have HO4 := hid ho4
  have HB4 := hid (bt HB3.out b4)
  clear ho4 b4 A1 HB3 hY1 hY2 hY3
  obtain ⟨Z1, hZ1⟩ : ∃ Z, w4.alloc (.cells #[.string ⟨#[97]⟩, .string ⟨#[98]⟩] 9) = Z := ⟨_, rfl⟩
  have C1 : Below w4.heap.size w4 Z1 := hZ1 ▸ ba (b0 w4) _
  have Q1 : Z1.heap[w4.heap.size]? = some (.cells (strsOf [[97], [98]]).toArray 9) := hZ1 ▸ heap_alloc_new w4 _
  obtain ⟨Z2, hZ2⟩ : ∃ Z, Z1.alloc (.cells #[.int .i64 1] 3) = Z := ⟨_, rfl⟩
  have C2 : Below Z1.heap.size Z1 Z2 := hZ2 ▸ ba (b0 Z1) _
  have Q2 : Z2.heap[Z1.heap.size]? = some (.cells (nums [1]).toArray 3) := hZ2 ▸ heap_alloc_new Z1 _
  obtain ⟨Z3, hZ3⟩ : ∃ Z, Z2.alloc (.cells #[.int .i64 0] 3) = Z := ⟨_, rfl⟩
  have C3 : Below Z2.heap.size Z2 Z3 := hZ3 ▸ ba (b0 Z2) _
  have Q3 : Z3.heap[Z2.heap.size]? = some (.cells (nums [0]).toArray 3) := hZ3 ▸ heap_alloc_new Z2 _
  obtain ⟨Z4, hZ4⟩ : ∃ Z, Z3.alloc (.cells #[.slice (some ⟨Z1.heap.size, 0, none⟩) 1 1, .slice (some ⟨Z2.heap.size, 0, none⟩) 1 1] 26) = Z := ⟨_, rfl⟩
  have C4 : Below Z3.heap.size Z3 Z4 := hZ4 ▸ ba (b0 Z3) _
  have Q4 : Z4.heap[Z3.heap.size]? = some (.cells ([.slice (some ⟨Z1.heap.size, 0, none⟩) 1 1, .slice (some ⟨Z2.heap.size, 0, none⟩) 1 1] : List Value).toArray 26) := hZ4 ▸ heap_alloc_new Z3 _
  have l1 := lt_of_at Q1
  have l2 := lt_of_at Q2
  have l3 := lt_of_at Q3
  have s2 := C2.size
  have s3 := C3.size
  have Q1' := (C4.block _ (by omega)).trans ((C3.block _ (by omega)).trans ((C2.block _ (by omega)).trans Q1))
  have Q2' := (C4.block _ (by omega)).trans ((C3.block _ (by omega)).trans Q2)
  have Q3' := (C4.block _ (by omega)).trans Q3
  have hs2 : Strs Z4 (.slice (some ⟨w4.heap.size, 0, none⟩) 2 2) [[97], [98]] := row_lit 2 Q1' rfl (by omega)
  have hv2 : Nd encN (fun _ => True) Z4 (.slice (some ⟨Z3.heap.size, 0, none⟩) 2 2) [[1], [0]] := by
    refine ⟨_, RowD.of (row_lit 2 Q4 rfl (by omega)), fun i hi => ?_⟩
    match i, hi with
    | 0, _ => exact ⟨_, rfl, RowD.of (row_lit (cs := nums [1]) 1 Q2' rfl (by omega))⟩
    | 1, _ => exact ⟨_, rfl, RowD.of (row_lit (cs := nums [0]) 1 Q3' rfl (by omega))⟩
  have A2 := hid (alive_two hs2 hv2)
  have BZ := bt C1 (bt C2 (bt C3 C4))
  have HO5 := hid (owns_later HO4.out BZ)
  have HB5 := hid (bt HB4.out BZ)
  clear hs2 hv2 Q1' Q2' Q3' Q4 C4 Q3 C3 Q2 C2 Q1 C1 BZ l1 l2 l3 s2 s3 HO4 HB4
  go_wp2_with fail
  refine A2.out.mono ?_
  rintro e w5 ⟨rfl, b5⟩
  have HO6 := hid (owns_later HO5.out b5)
  have HB6 := hid (bt HB5.out b5)
  obtain ⟨X, hX⟩ : ∃ X, w5.alloc (.cells #[.int .i64 1, .int .i64 2, .int .i64 0] 3) = X := ⟨_, rfl⟩
  have BX : Below w5.heap.size w5 X := hX ▸ ba (b0 w5) _
  have PX : X.heap[w5.heap.size]? = some (.cells (nums [1, 2, 0]).toArray 3) := hX ▸ heap_alloc_new w5 _
  have SM := hid (same_any r (.slice (some ⟨w5.heap.size, 0, none⟩) 3 3) [1, 2, 0] [1, 2, 0] X (Row.ofOwns (owns_later HO6.out BX) (by simp)) (row_lit (cs := nums [1, 2, 0]) 3 PX rfl (by omega)))
  rw [show decide (([1, 2, 0] : List Nat) = [1, 2, 0]) = true from rfl] at SM
  have HB7 := hid (bt HB6.out BX)
  clear b5 BX PX A2 hZ1 hZ2 hZ3 hZ4 HO5 HB5
  go_wp2_with fail
  refine SM.out.mono ?_
  rintro e w6 ⟨rfl, b6⟩
  have HB8 := hid (bt HB7.out b6)
  clear b6
  go_wp2_with fail
  go_ret
  exact ⟨rfl, HB8.out⟩
end Go.Proofs.Ytkpmkabddhpojaa.Or
