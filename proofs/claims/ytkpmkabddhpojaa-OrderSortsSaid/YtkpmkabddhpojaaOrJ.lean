/- Layer 14: the order of names and numbers; the contract of the comparison that byName hands to the sort. -/
import Derived.Test.YtkpmkabddhpojaaOrD
import Derived.Test.YtkpmkabddhpojaaScMath
import Derived.Test.YtkpmkabddhpojaaShelf
import Derived.Deep.RegionWith
set_option linter.unusedVariables false
set_option linter.unusedSimpArgs false
namespace Go.Proofs.Ytkpmkabddhpojaa.Or
open Go Go.Proofs.Ytkpmkabddhpojaa Go.RowKit Go.Lib Go.Sort Go.Op
set_option maxRecDepth 100000

/-- A name is ahead of another; of two alike the least number. -/
def lexB (S : List (List UInt8)) (x y : Nat) : Bool := bytesLess (S.getD x []) (S.getD y []) || (S.getD x [] == S.getD y [] && decide (x < y))
def cfN (S : List (List UInt8)) (x y : Nat) : Int := orI [compareBytes (S.getD x []) (S.getD y []), compareInt x y]
theorem cmp_bytes : ∀ a b : List UInt8, compareBytes a b = if bytesLess a b = true then -1 else if a = b then 0 else 1
  | [], [] => rfl
  | [], _ :: _ => rfl
  | _ :: _, [] => rfl
  | a :: x, b :: y => by
    have ih := cmp_bytes x y
    unfold compareBytes
    by_cases h1 : a < b
    · rw [if_pos h1, if_pos (Sc.less_cons.2 (.inl h1))]
    · rw [if_neg h1]
      by_cases h2 : b < a
      · have hne : a ≠ b := fun e => by rw [e] at h2; exact absurd h2 (UInt8.lt_irrefl _)
        rw [if_pos h2, if_neg (fun q => by rcases Sc.less_cons.1 q with q | ⟨q, _⟩; exact h1 q; exact hne q), if_neg (fun q => hne (List.cons.inj q).1)]
      · have he : a = b := by
          apply UInt8.toNat_inj.1
          rw [UInt8.lt_iff_toNat_lt] at h1 h2
          omega
        subst he
        rw [if_neg h2, ih]
        by_cases h3 : bytesLess x y = true
        · rw [if_pos h3, if_pos (Sc.less_cons.2 (.inr ⟨rfl, h3⟩))]
        · have e3 : ¬ bytesLess (a :: x) (a :: y) = true := fun q => by
            rcases Sc.less_cons.1 q with q | ⟨_, q⟩
            · exact h1 q
            · exact h3 q
          rw [if_neg h3, if_neg e3]
          by_cases h4 : x = y
          · rw [if_pos h4, if_pos (by rw [h4])]
          · rw [if_neg h4, if_neg (fun q => h4 (List.cons.inj q).2)]
theorem cf_lex (S : List (List UInt8)) (x y : Nat) : decide (cfN S x y < 0) = lexB S x y := by
  unfold cfN lexB
  rw [cmp_bytes]
  generalize S.getD x [] = a
  generalize S.getD y [] = b
  by_cases h1 : bytesLess a b = true
  · simp [orI, h1]
  · have h1' : bytesLess a b = false := by simpa using h1
    by_cases h2 : a = b
    · subst h2
      simp only [Sc.less_irrefl, orI, compareInt]
      by_cases h3 : x < y
      · have : (x : Int) < y := by omega
        simp [h3, this]
      · by_cases h4 : y < x
        · have e1 : ¬ (x : Int) < y := by omega
          have e2 : (y : Int) < x := by omega
          simp [h3, e1, e2]
        · have e1 : ¬ (x : Int) < y := by omega
          have e2 : ¬ (y : Int) < x := by omega
          simp [h3, e1, e2]
    · simp [orI, h1', h2]
theorem lex_irrefl (S : List (List UInt8)) (x : Nat) : lexB S x x = false := by simp [lexB, Sc.less_irrefl]
theorem lex_trans {S : List (List UInt8)} {x y z : Nat} (h : lexB S x y = true) (k : lexB S y z = true) : lexB S x z = true := by
  simp only [lexB, Bool.or_eq_true, Bool.and_eq_true, beq_iff_eq, decide_eq_true_eq] at *
  rcases h with h | ⟨h1, h2⟩
  · rcases k with k | ⟨k1, k2⟩
    · exact .inl (Sc.less_trans h k)
    · exact .inl (by rw [← k1]; exact h)
  · rcases k with k | ⟨k1, k2⟩
    · exact .inl (by rw [h1]; exact k)
    · exact .inr ⟨h1.trans k1, by omega⟩
theorem lex_total {S : List (List UInt8)} {x y : Nat} (h : x ≠ y) : lexB S x y = true ∨ lexB S y x = true := by
  simp only [lexB, Bool.or_eq_true, Bool.and_eq_true, beq_iff_eq, decide_eq_true_eq]
  by_cases e : S.getD x [] = S.getD y []
  · rcases Nat.lt_or_gt_of_ne h with q | q
    · exact .inl (.inr ⟨e, q⟩)
    · exact .inr (.inr ⟨e.symm, q⟩)
  · rcases Sc.less_total e with q | q
    · exact .inl (.inl q)
    · exact .inr (.inl q)
theorem lex_asymm {S : List (List UInt8)} {x y : Nat} (h : lexB S x y = true) : lexB S y x = false := by
  cases q : lexB S y x with
  | false => rfl
  | true => have := lex_trans h q; rw [lex_irrefl] at this; cases this
/-- Neither is ahead: they are one. -/
theorem lex_same {S : List (List UInt8)} {x y : Nat} (h : lexB S x y = false) (k : lexB S y x = false) : x = y := by
  false_or_by_contra
  rename_i hn
  rcases lex_total (S := S) hn with q | q
  · rw [q] at h; cases h
  · rw [q] at k; cases k
theorem lex_ntrans {S : List (List UInt8)} {x y z : Nat} (h : lexB S x y = false) (k : lexB S y z = false) : lexB S x z = false := by
  cases q : lexB S x z with
  | false => rfl
  | true =>
    by_cases e1 : x = y
    · subst e1; rw [k] at q; cases q
    · rcases lex_total (S := S) e1 with r | r
      · rw [r] at h; cases h
      · have := lex_trans r q; rw [k] at this; cases this

set_option maxHeartbeats 4000000 in
theorem cmpf_any {S : List (List UInt8)} {v : Value} {Bx : Nat} {W : World} (hc : W.cell? ⟨Bx, 0, none⟩ = some v) (hv : Strs W v S) (x y : Nat) (hx : x < S.length) (hy : y < S.length) :
    Calls Try.prog 33 #[.int .i64 x, .int .i64 y, .pointer (some ⟨Bx, 0, none⟩)] W fun e w' => e = .returned (.int .i64 (cfN S x y)) ∧ ∃ q os', w' = grow (W.drewN q) os' := by
  have mixed : Try.prog.follows Departure.mixedOrders = true := by kernel_rfl
  obtain ⟨b1, o1, hi1, hc1⟩ := row_at (P := Try.prog) (enc := fun s => Value.string (text s)) hv x hx 22 9 Try.underlying22 Try.sizeOf9
  obtain ⟨b2, o2, hi2, hc2⟩ := row_at (P := Try.prog) (enc := fun s => Value.string (text s)) hv y hy 22 9 Try.underlying22 Try.sizeOf9
  have CC := fun W => Try.cmp_Compare_int (x : Int) (y : Int) W
  have SC := fun W => Try.strings_Compare (text S[x]) (text S[y]) W
  rw [text_data, text_data] at SC
  have ec : cfN S x y = orI [compareBytes S[x] S[y], compareInt x y] := by unfold cfN; simp [hx, hy]
  rw [ec]
  generalize compareBytes S[x] S[y] = c1 at *
  generalize compareInt (x : Int) (y : Int) = c2 at *
  generalize text S[x] = t1 at *
  generalize text S[y] = t2 at *
  obtain ⟨Y, hY⟩ : ∃ Y, W.alloc (.cells #[.int .i64 c1, .int .i64 c2] 3) = Y := ⟨_, rfl⟩
  have PR : Row 1 Y (.slice (some ⟨W.heap.size, 0, none⟩) 2 2) 2 [encI c1, encI c2] := hY ▸ Row.ofBuild (sz := 1) W #[.int .i64 c1, .int .i64 c2] 3 2 rfl (by omega)
  have O1 := hid (Or_any (.slice (some ⟨W.heap.size, 0, none⟩) 2 2) [c1, c2] Y PR)
  have O2 := hid (Or_any (.slice (some ⟨W.heap.size, 0, none⟩) 2 2) [c1, c2] Y.drew (Row.later PR fun _ _ _ => rfl))
  generalize orI [c1, c2] = r at *
  have HG := hid (show Y = grow (W.drewN 0) #[.cells #[.int .i64 c1, .int .i64 c2] 3] ∧ Y.drew = grow (W.drewN 1) #[.cells #[.int .i64 c1, .int .i64 c2] 3] from by rw [← hY]; exact ⟨rfl, rfl⟩)
  clear hv PR ec
  go_enter Try.func33, Try.ntmps33
  go_wp2_with fail
  go_region_with (first | (go_at_call 35; refine (SC _).mono ?_; rintro e w1 ⟨rfl, rfl⟩) | (go_at_call 36; refine (CC _).mono ?_; rintro e w1 ⟨rfl, rfl⟩) | (go_at_call 34; refine O1.out.mono ?_; rintro e w1 ⟨rfl, rfl⟩) | (go_at_call 34; refine O2.out.mono ?_; rintro e w1 ⟨rfl, rfl⟩))
  all_goals go_wp2_with fail
  all_goals go_ret
  all_goals first | exact ⟨rfl, _, _, HG.out.2⟩ | exact ⟨rfl, _, _, HG.out.1⟩
end Go.Proofs.Ytkpmkabddhpojaa.Or
