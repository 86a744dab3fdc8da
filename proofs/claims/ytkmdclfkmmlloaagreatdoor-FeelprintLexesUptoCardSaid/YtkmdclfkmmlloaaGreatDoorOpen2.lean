/- How arguments are read, further: an array of two texts. Over any program. -/
import Derived.Test.YtkmdclfkmmlloaaGreatDoorOpen
import Derived.Lib.SmallJoins
set_option linter.unusedVariables false
set_option linter.unusedSimpArgs false
namespace Go.Proofs.YtkmdclfkmmlloaaGreatDoor
open Go Go.ChangeShapes Go.WideShapes Go.ChangeAt Go.RowKit

section
variable {H : Type} {enc : TypeId × Value → H} {P : Program} {W : World}

/-- An array that came in has its cells. -/
theorem okWide_row {n : Nat} {t e : TypeId} {r : Reach} {base : Nat} {v : Value} (ht : P.underlying t = some (.array n e)) (h : Value.okWide P W r base t v) : ∃ cs, v = .agg cs ∧ cs.size = P.cellsOf t := by
  simp only [Value.okWide, ht] at h
  obtain ⟨cs, h1, h2, _⟩ := h
  exact ⟨cs, h1, h2⟩

/-- An array of two texts that came in. -/
theorem open_two {t e : TypeId} {base : Nat} {v : Value} {d : DataW H} {ps : List MemPlace} (ht : P.underlying t = some (.array 2 e)) (he : P.underlying e = some .string) (hc : P.cellsOf t = 2) (hce : P.cellsOf e = 1)
    (hval : Value.okWide P W .any base t v) (h : DataW.Trod enc P W 0 (fun _ => true) true t v d ps)
    {ts : List TypeId} {ds : List (DataW H)} (hsz : (DataW.weightsEach P ts ds).all (· ≤ reachBytes) = true) (j : Nat) (hts : ts[j]? = some t) (hds : ds[j]? = some d) :
    ∃ a b : List UInt8, v = .agg #[.string (text a), .string (text b)] ∧ a.length ≤ 140737488351232 ∧ b.length ≤ 140737488351232 := by
  obtain ⟨cs, rfl, hcs⟩ := okWide_row ht hval
  rw [hc] at hcs
  obtain ⟨c0, c1, rfl⟩ := Go.Joins.array2 hcs
  obtain ⟨fuel, hf⟩ := h
  obtain ⟨xs, m, _, hx, _, hl, hg⟩ := DataW.trod_array ht hf
  match xs, hl with
  | [y0, y1], _ =>
    have g0 := hg 0 (by omega)
    have g1 := hg 1 (by omega)
    simp [hce, Value.cells] at g0 g1
    obtain ⟨s0, e0, d0, _⟩ := DataW.trod_string he g0
    obtain ⟨s1, e1, d1, _⟩ := DataW.trod_string he g1
    simp only [List.cons.injEq, and_true] at e0 e1
    subst e0 e1 d0 d1
    have hd : d = .agg [.lit (.string s0.data.toList), .lit (.string s1.data.toList)] := by simpa using congrArg Prod.fst hx
    subst hd
    have big := fun n hn => List.all_eq_true.1 hsz n (DataW.weights_mem_each hts hds n hn)
    have b0 := big s0.data.toList.length (by simp [DataW.weights, DataW.weightsAll, ht])
    have b1 := big s1.data.toList.length (by simp [DataW.weights, DataW.weightsAll, ht])
    exact ⟨s0.data.toList, s1.data.toList, by simp [text], of_decide_eq_true b0, of_decide_eq_true b1⟩
end
end Go.Proofs.YtkmdclfkmmlloaaGreatDoor
