/- Layer 14: contracts: rising, cmp.Or. -/
import Derived.Test.YtkpmkabddhpojaaOrB
set_option linter.unusedVariables false
set_option linter.unusedSimpArgs false
namespace Go.Proofs.Ytkpmkabddhpojaa.Or
open Go Go.Proofs.Ytkpmkabddhpojaa Go.RowKit
set_option maxRecDepth 100000

/-- append of one number, for a walk. -/
theorem append_step {ops : Array Oper} {rest : List Oper} {o : Oper} {a : Go.Act} {Q : Exit → Go.Act → World → Prop} {B : Nat} {w : World} {v : Value} {l : List Nat} {k : Nat} {g : Nat} (ho : w.ownsRow B 3 1 v l.length (nums l)) (hl : l.length ≤ 1000000000) (hB : B ≤ w.heap.size) (hg : w.heap[g]? = some (.cells #[encN k] 3)) (t : TypeId) (ht : Try.prog.underlying t = some (.slice 3))
    (hgd : o.guard = none) (s x : Operand) (hop : o.op = .call { callee := .builtin .append, args := #[s, x], argTypes := #[t, t] }) (hs : a.eval s = v) (hx : a.eval x = .slice (some ⟨g, 0, none⟩) 1 1)
    (h : ∀ v' w', w'.ownsRow B 3 1 v' (l ++ [k]).length (nums (l ++ [k])) → w.grownBy w' v.ownBlock → (v'.ownBlock = v.ownBlock ∨ v'.ownBlock = some w.heap.size) → wpList Try.prog ops Q rest (a.put o.dst v') w') : wpList Try.prog ops Q (o :: rest) a w := by
  obtain ⟨v', w', h1, h2, h3, h4⟩ := append_num B w v l k ho hl hB hg t ht
  refine wpList_plain hgd fun K hK => ?_
  have h5 := h1 o.type
  unfold Oper.wp
  simp [execOp, hop, resolve, invoke, builtin, hs, hx, h5, Result.andThen]
  exact hK _ _ (h v' w' h2 h3 h4)

/-- The things below i that are marked so. -/
def onTo (m : List Bool) (so : Bool) (i : Nat) : List Nat := (List.range i).filter fun t => m.getD t false == so
theorem onTo_succ (m : List Bool) (so : Bool) (i : Nat) : onTo m so (i + 1) = if m.getD i false = so then onTo m so i ++ [i] else onTo m so i := by
  unfold onTo
  rw [List.range_succ, List.filter_append]
  by_cases h : m.getD i false = so
  · rw [if_pos h]; rw [List.getD_eq_getElem?_getD] at h; simp [h]
  · rw [if_neg h]; rw [List.getD_eq_getElem?_getD] at h; simp [h]
theorem onTo_le (m : List Bool) (so : Bool) (i : Nat) : (onTo m so i).length ≤ i := by
  have := List.length_filter_le (fun t => m.getD t false == so) (List.range i)
  simpa [onTo] using this
set_option maxHeartbeats 4000000 in
theorem rising_any (x : Value) (m : List Bool) (so : Bool) (w : World) (hx : Row 1 w x m.length (bools m)) (hn : m.length ≤ 1000000000) :
    Calls Try.prog 24 #[x, .bool so] w fun e w' => ∃ v, e = .returned v ∧ w'.ownsRow w.heap.size 3 1 v (on m so).length (nums (on m so)) ∧ Below w.heap.size w w' := by
  have hlen := fun W => hx.len (P := Try.prog) 46 3 4 Try.underlying46 W
  have HX := hid hx
  clear hx
  go_enter Try.func24, Try.ntmps24
  go_wp2
  go_loopg [5, 10] m.length (fun kx s5 s10 X => ∃ i : Nat, s10 = .int .i64 i ∧ i ≤ m.length ∧ m.length - i ≤ kx ∧ Hid (Below w.heap.size w X) ∧ Hid (X.ownsRow w.heap.size 3 1 s5 (onTo m so i).length (nums (onTo m so i))))
  case atStart => exact ⟨0, rfl, Nat.zero_le _, by omega, hid (b0 w), hid ⟨rfl, .inl ⟨rfl, rfl⟩⟩⟩
  case round =>
    rename World => X
    obtain ⟨i, rfl, hi, hg, BX, I⟩ := hrel
    by_cases hil : i < m.length
    · have hxX := HX.out.below BX.out (Nat.le_refl _)
      obtain ⟨b2, o2, hix2, hc2⟩ := row_at (P := Try.prog) (enc := Value.bool) hxX i hil 46 4 Try.underlying46 Try.sizeOf4
      have hst := onTo_succ m so i
      have hmi : m.getD i false = m[i] := by simp [hil]
      rw [hmi] at hst
      generalize m[i] = y at *
      by_cases hy : y = so
      · rw [if_pos hy] at hst
        have HST := hid hst
        obtain ⟨Y, hY⟩ : ∃ Y, X.alloc (.cells #[.int .i64 (i : Int)] 3) = Y := ⟨_, rfl⟩
        have BY : Below X.heap.size X Y := hY ▸ ba (b0 X) _
        have PY : Y.heap[X.heap.size]? = some (.cells #[.int .i64 (i : Int)] 3) := hY ▸ heap_alloc_new X _
        have HOY := hid (owns_later I.out BY)
        have HBY := hid (BX.out.trans (BY.mono BX.out.size))
        have HPY := hid PY
        have HL := hid (show (onTo m so i).length ≤ 1000000000 from Nat.le_trans (onTo_le m so i) (by omega))
        clear hst BY PY hxX hmi
        subst hy
        go_wp2_with (at_builtin; refine append_step HOY.out HL.out HBY.out.size HPY.out 26 Try.underlying26 rfl _ _ rfl rfl rfl ?_)
        intro v' w1 ho1 hg1 hb1
        have HO1 := hid ho1
        have HB1 := hid (HBY.out.grown hg1 HBY.out.size (fun k hk => (World.ownsRow.lt HOY.out k hk).1))
        clear ho1 hg1 hb1
        go_wp2_with fail
        go_roundg (m.length - (i + 1))
        case measure => omega
        case rel => exact ⟨i + 1, by go_num, by omega, Nat.le_refl _, HB1, by rw [HST.out]; exact hid (by have := HO1.out; simpa using this)⟩
      · rw [if_neg hy] at hst
        have HST := hid hst
        have hne : (y == so) = false := by simpa using hy
        clear hst hxX hmi
        go_wp2
        go_roundg (m.length - (i + 1))
        case measure => omega
        case rel => exact ⟨i + 1, by go_num, by omega, Nat.le_refl _, BX, by rw [HST.out]; exact I⟩
    · obtain rfl : i = m.length := by omega
      go_wp2
      go_ret
      exact ⟨_, rfl, I.out, BX.out⟩

/-- The first that isn't 0. -/
def orI (l : List Int) : Int := (l.find? fun k => k != 0).getD 0
theorem orI_go {l : List Int} {k : Nat} (hk : k < l.length) (h : (l.take k).all (· == 0) = true) : (l[k] = 0 → (l.take (k + 1)).all (· == 0) = true) ∧ (l[k] ≠ 0 → orI l = l[k]) := by
  constructor
  · intro e
    rw [List.take_succ_eq_append_getElem hk, List.all_append, h]; simp [e]
  · intro e
    have e1 : l = l.take k ++ l[k] :: l.drop (k + 1) := by
      rw [List.getElem_cons_drop, List.take_append_drop]
    unfold orI
    generalize l[k] = y at *
    rw [e1, List.find?_append]
    have : (l.take k).find? (fun k => k != 0) = none := by
      rw [List.find?_eq_none]
      intro x hx
      have := List.all_eq_true.1 h x hx
      simpa using this
    rw [this]
    simp [e]
theorem orI_end {l : List Int} {k : Nat} (hk : ¬ k < l.length) (h : (l.take k).all (· == 0) = true) : orI l = 0 := by
  rw [List.take_of_length_le (by omega)] at h
  unfold orI
  have : l.find? (fun k => k != 0) = none := by
    rw [List.find?_eq_none]
    intro x hx
    have := List.all_eq_true.1 h x hx
    simpa using this
  rw [this]; rfl
set_option maxHeartbeats 2000000 in
theorem Or_any (x : Value) (l : List Int) (w : World) (hx : Row 1 w x l.length (l.map encI)) :
    Calls Try.prog 34 #[x] w fun e w' => e = .returned (.int .i64 (orI l)) ∧ w = w' := by
  have hlen := fun W => hx.len (P := Try.prog) 26 3 3 Try.underlying26 W
  have hle := hx.le
  have HX := hid hx
  obtain ⟨r, hr⟩ : ∃ r, orI l = r := ⟨_, rfl⟩
  rw [hr]
  have HR := hid hr
  clear hx hr
  go_enter Try.func34, Try.ntmps34
  go_wp2
  go_loopg [8] l.length (fun kx s8 wr => ∃ i : Nat, s8 = .int .i64 i ∧ i ≤ l.length ∧ l.length - i ≤ kx ∧ w = wr ∧ Hid ((l.take i).all (· == 0) = true))
  case atStart => exact ⟨0, rfl, Nat.zero_le _, by omega, rfl, hid rfl⟩
  case round =>
    obtain ⟨i, rfl, hi, hg, rfl, I⟩ := hrel
    by_cases hil : i < l.length
    · obtain ⟨b2, o2, hix2, hc2⟩ := row_at (P := Try.prog) HX.out i hil 26 3 Try.underlying26 Try.sizeOf3
      simp only [encI] at hc2
      obtain ⟨g1, g2⟩ := orI_go hil I.out
      generalize l[i] = y at *
      have G1 := hid g1
      have G2 := hid g2
      clear g1 g2
      by_cases hy : y = 0
      · go_wp2
        go_roundg (l.length - (i + 1))
        case measure => omega
        case rel => exact ⟨i + 1, by go_num, by omega, Nat.le_refl _, rfl, hid (G1.out hy)⟩
      · go_wp2
        go_ret
        exact ⟨by rw [← HR.out, G2.out hy]; rfl, rfl⟩
    · have HE := hid (orI_end hil I.out)
      go_wp2
      go_ret
      exact ⟨by rw [← HR.out, HE.out]; rfl, rfl⟩
end Go.Proofs.Ytkpmkabddhpojaa.Or
