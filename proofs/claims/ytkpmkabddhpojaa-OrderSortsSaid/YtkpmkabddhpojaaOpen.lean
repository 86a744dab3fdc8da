/- How arguments are read: from what the statements' form says of an argument to what the walks ask. Over any program. -/
import Derived.Test.YtkpmkabddhpojaaRow
import Derived.ProofKit
import Derived.OpenShut
import Derived.ShutString
import Derived.ChangeOld
import Derived.Below
import Derived.SizedLaws
set_option linter.unusedVariables false
set_option linter.unusedSimpArgs false
namespace Go.Proofs.Ytkpmkabddhpojaa
open Go Go.ChangeShapes Go.WideShapes Go.ChangeAt Go.RowKit

section
variable {H : Type} {enc : TypeId × Value → H} {P : Program} {W : World} {sp : Nat → Bool}

/-- A slice of bytes that came in. -/
theorem open_bytes {t e : TypeId} {base : Nat} {v : Value} {d : DataW H} {ps : List MemPlace} (ht : P.underlying t = some (.slice e)) (he : P.underlying e = some (.int .u8)) (hc : P.cellsOf e = 1) (hby : P.bytesOf e = 1)
    (hval : Value.okWide P W .any base t v) (h : DataW.Trod enc P W 0 (fun _ => true) true t v d ps)
    {ts : List TypeId} {ds : List (DataW H)} (hsz : (DataW.weightsEach P ts ds).all (· ≤ reachBytes) = true) (j : Nat) (hts : ts[j]? = some t) (hds : ds[j]? = some d) :
    ∃ l : List UInt8, Bytes W v l ∧ l.length ≤ 140737488351232 := by
  obtain ⟨a0, len0, cap0, rfl⟩ := okWide_slice ht hval
  obtain ⟨fuel, hf⟩ := h
  rcases open_ints ht he hc hf with ⟨hcs, _⟩ | ⟨x, l, c, zs, hcs, _, hl, hm, hz, hx, hcell, hwz⟩
  · simp [Value.cells] at hcs
    obtain ⟨rfl, rfl, rfl⟩ := hcs
    exact ⟨[], Row.nil 1 W, by simp⟩
  · simp [Value.cells] at hcs
    obtain ⟨rfl, rfl, rfl⟩ := hcs
    simp only [if_true] at hz
    have hd : d = .slice (lits .u8 (zs.take len0)) (lits .u8 (zs.drop len0)) := congrArg Prod.fst hx
    subst hd
    have hr := sized_slice hsz hts hds ht
    rw [hby] at hr
    simp only [lits, List.length_map, List.length_take, List.length_drop, reachBytes] at hr
    have hlen : ((zs.take len0).map fun z => UInt8.ofNat z.toNat).length = len0 := by simp; omega
    refine ⟨(zs.take len0).map fun z => UInt8.ofNat z.toNat, ?_, by rw [hlen]; omega⟩
    unfold Bytes
    rw [hlen]
    refine ⟨⟨some x, cap0, rfl, hl, hm, by omega, (fun e => by cases e), fun hx0 => ?_⟩, by rw [cellsOf_length, hlen]; omega⟩
    rw [cellsOf_length, hlen] at hx0
    obtain ⟨b, off, spot⟩ := x
    have hspot : spot = none := by simpa [Addr.add] using World.cell?_spot (hcell 0 (by omega))
    subst hspot
    refine ⟨b, off, rfl, fun i u hu => ?_⟩
    have hi : i < len0 := by
      have := (List.getElem?_eq_some_iff.1 hu).1
      rw [cellsOf_length, hlen] at this; exact this
    have hiz : i < zs.length := by omega
    have := hcell i hiz
    rw [Addr.add_lit] at this
    rw [this]
    have hw := bounds_u8 (hwz zs[i] (List.getElem_mem hiz))
    simp [cellsOf, hiz, hi] at hu
    rw [← hu]
    simp [hiz]
    omega
/-- A slice of whole numbers that came in. -/
theorem open_nums {t e : TypeId} {base : Nat} {v : Value} {d : DataW H} {ps : List MemPlace} (ht : P.underlying t = some (.slice e)) (he : P.underlying e = some (.int .i64)) (hc : P.cellsOf e = 1) (hby : P.bytesOf e = 8)
    (hval : Value.okWide P W .any base t v) (h : DataW.Trod enc P W 0 (fun _ => true) true t v d ps)
    {ts : List TypeId} {ds : List (DataW H)} (hsz : (DataW.weightsEach P ts ds).all (· ≤ reachBytes) = true) (j : Nat) (hts : ts[j]? = some t) (hds : ds[j]? = some d) :
    ∃ l : List Int, Nums W v l ∧ l.length ≤ 17592186043904 ∧ ∀ n ∈ l, (Lit.int .i64 n).wf = true := by
  obtain ⟨a0, len0, cap0, rfl⟩ := okWide_slice ht hval
  obtain ⟨fuel, hf⟩ := h
  rcases open_ints ht he hc hf with ⟨hcs, _⟩ | ⟨x, l, c, zs, hcs, _, hl, hm, hz, hx, hcell, hwz⟩
  · simp [Value.cells] at hcs
    obtain ⟨rfl, rfl, rfl⟩ := hcs
    exact ⟨[], Row.nil 1 W, by simp, by simp⟩
  · simp [Value.cells] at hcs
    obtain ⟨rfl, rfl, rfl⟩ := hcs
    simp only [if_true] at hz
    have hd : d = .slice (lits .i64 (zs.take len0)) (lits .i64 (zs.drop len0)) := congrArg Prod.fst hx
    subst hd
    have hr := sized_slice hsz hts hds ht
    rw [hby] at hr
    simp only [lits, List.length_map, List.length_take, List.length_drop, reachBytes] at hr
    have hlen : (zs.take len0).length = len0 := by simp; omega
    refine ⟨zs.take len0, ?_, by rw [hlen]; omega, fun n hn => hwz n (List.mem_of_mem_take hn)⟩
    unfold Nums
    rw [hlen]
    refine ⟨⟨some x, cap0, rfl, hl, hm, by omega, (fun e => by cases e), fun hx0 => ?_⟩, by rw [numsOf_length, hlen]; omega⟩
    rw [numsOf_length, hlen] at hx0
    obtain ⟨b, off, spot⟩ := x
    have hspot : spot = none := by simpa [Addr.add] using World.cell?_spot (hcell 0 (by omega))
    subst hspot
    refine ⟨b, off, rfl, fun i u hu => ?_⟩
    have hi : i < len0 := by
      have := (List.getElem?_eq_some_iff.1 hu).1
      rw [numsOf_length, hlen] at this; exact this
    have hiz : i < zs.length := by omega
    have := hcell i hiz
    rw [Addr.add_lit] at this
    rw [this]
    simp [numsOf, hiz, hi] at hu
    rw [← hu]
    simp [hiz]
/-- A text that came in. -/
theorem open_text {t : TypeId} {base : Nat} {v : Value} {d : DataW H} {ps : List MemPlace} (ht : P.underlying t = some .string)
    (hval : Value.okWide P W .any base t v) (h : DataW.Trod enc P W 0 (fun _ => true) true t v d ps)
    {ts : List TypeId} {ds : List (DataW H)} (hsz : (DataW.weightsEach P ts ds).all (· ≤ reachBytes) = true) (j : Nat) (hts : ts[j]? = some t) (hds : ds[j]? = some d) :
    ∃ s : ByteArray, v = .string s ∧ s.size ≤ 140737488351232 := by
  obtain ⟨s, rfl, rfl, rfl, hs⟩ := Go.ChangeMaps.open_string ht hval h
  have := sized_string hsz hts hds
  simp only [reachBytes] at this
  refine ⟨s, rfl, ?_⟩
  rw [Lib.size_eq]; exact this
end
end Go.Proofs.Ytkpmkabddhpojaa
