/- Layer 9: rows of texts as arguments. -/
import Derived.Test.YtkpmkabddhpojaaScMath
import Derived.Test.YtkpmkabddhpojaaOpen
import Derived.Test.YtkpmkabddhpojaaRows
import Derived.SliceStrings
set_option linter.unusedVariables false
set_option linter.unusedSimpArgs false
namespace Go.Proofs.Ytkpmkabddhpojaa.Sc
open Go Go.Proofs.Ytkpmkabddhpojaa Go.ChangeShapes Go.WideShapes Go.ChangeAt Go.RowKit

/-- Letters, and texts. -/
def strMass (l : List (List UInt8)) : Nat := (l.map fun s => 1 + s.length).sum
theorem strMass_cons (x : List UInt8) (l : List (List UInt8)) : strMass (x :: l) = 1 + x.length + strMass l := by simp [strMass]
theorem strMass_len : ∀ l : List (List UInt8), l.length ≤ strMass l
  | [] => by simp
  | x :: l => by have := strMass_len l; rw [strMass_cons, List.length_cons]; omega
theorem strMass_mem : ∀ {l : List (List UInt8)} {x : List UInt8}, x ∈ l → x.length + 1 ≤ strMass l
  | [], x, h => by cases h
  | y :: l, x, h => by
    rw [strMass_cons]
    rcases List.mem_cons.1 h with rfl | h
    · omega
    · have := strMass_mem h; omega
section
variable {H : Type} {enc : TypeId × Value → H} {P : Program} {w : World} {base : Nat} {spare : Nat → Bool} {held : Bool}
theorem text_back (s : ByteArray) : text s.data.toList = s := by simp [text]
theorem bulk_strs {H : Type} : ∀ ss : List ByteArray, strMass (ss.map fun s => s.data.toList) ≤ Rows.uptoBulkAll (strs ss : List (DataW H))
  | [] => by simp [strMass]
  | s :: ss => by
    have := bulk_strs (H := H) ss
    rw [List.map_cons, strMass_cons]
    simp only [strs, List.map_cons, Rows.uptoBulkAll, Rows.uptoBulk] at this ⊢
    omega
theorem open_strs_row {t e : TypeId} (ht : P.underlying t = some (.slice e)) (he : P.underlying e = some .string) (hc : P.cellsOf e = 1) {fuel : Nat} {v : Value} {x : DataW H × List MemPlace}
    (h : DataW.trod enc P w base spare held fuel t [v] = some x) (hb : ∀ a n c, v = .slice (some a) n c → n ≤ 281474976710656) : ∃ l : List (List UInt8), Strs w v l ∧ strMass l ≤ Rows.uptoBulk x.1 := by
  rcases open_strings ht he hc h with ⟨hv, hx⟩ | ⟨a, len, cap, ss, hv, hbs, hl, hm, hlen, hx, hcell, hmax⟩
  · obtain rfl : v = .slice none 0 0 := by simpa using hv
    exact ⟨[], Row.nil 1 w, by simp [strMass]⟩
  obtain rfl : v = .slice (some a) len cap := by simpa using hv
  have hsl : len ≤ ss.length := by rw [hlen]; split <;> omega
  have hll : ((ss.take len).map fun s => s.data.toList).length = len := by simp; omega
  refine ⟨(ss.take len).map fun s => s.data.toList, ?_, ?_⟩
  · unfold Strs
    rw [hll]
    refine ⟨⟨some a, cap, rfl, hl, hm, hb a len cap rfl, (fun e => by cases e), fun h0 => ?_⟩, by rw [strsOf_length, hll]; omega⟩
    rw [strsOf_length, hll] at h0
    obtain ⟨b, off, spot⟩ := a
    have h1 := hcell 0 (by omega)
    have hspot : spot = none := by simpa [Addr.add] using World.cell?_spot h1
    subst hspot
    refine ⟨b, off, rfl, fun j u hj => ?_⟩
    have hjl : j < len := by
      have := (List.getElem?_eq_some_iff.1 hj).1
      rw [strsOf_length, hll] at this; exact this
    have h2 := hcell j (by omega)
    rw [Addr.add_lit] at h2
    rw [h2]
    have hjs : j < ss.length := by omega
    have : (strsOf ((ss.take len).map fun s => s.data.toList))[j]? = some (.string ss[j]) := by
      simp [strsOf, hjl, hjs, List.getElem_take, text_back]
    rw [this] at hj
    rw [← hj]
    simp [hjs]
  · rw [hx]
    have := bulk_strs (H := H) (ss.take len)
    simp only [Rows.uptoBulk]
    omega
/-- Texts that came in. -/
theorem arg_strs {t e : TypeId} {b0 : Nat} {v : Value} {d : DataW H} {ps : List MemPlace} (ht : P.underlying t = some (.slice e)) (he : P.underlying e = some .string) (hc : P.cellsOf e = 1) (hby : P.bytesOf e = 16)
    (hval : Value.okWide P w .any b0 t v) (h : DataW.Trod enc P w 0 (fun _ => true) true t v d ps)
    {ts : List TypeId} {ds : List (DataW H)} (hsz : (DataW.weightsEach P ts ds).all (· ≤ reachBytes) = true) (j : Nat) (hts : ts[j]? = some t) (hds : ds[j]? = some d) :
    ∃ l : List (List UInt8), Strs w v l ∧ strMass l ≤ Rows.uptoBulk d := by
  obtain ⟨a, n, c, rfl⟩ := okWide_slice ht hval
  obtain ⟨fuel, hf⟩ := h
  refine open_strs_row ht he hc (x := (d, ps)) (by simpa [Value.cells] using hf) fun a' n' c' e => ?_
  rcases open_strings ht he hc (x := (d, ps)) (by simpa [Value.cells] using hf) with ⟨hv, hx⟩ | ⟨x, len, cap, ss, hv, hbs, hl, hm, hlen, hx, hcell, hmax⟩
  · rw [e] at hv; simp at hv
  · obtain ⟨rfl, rfl, rfl⟩ : n' = len ∧ c' = cap ∧ a' = x := by rw [e] at hv; simp at hv; exact ⟨hv.2.1, hv.2.2, hv.1⟩
    have hd : d = .slice (strs (ss.take n')) (strs (ss.drop n')) := congrArg Prod.fst hx
    subst hd
    have hr := sized_slice hsz hts hds ht
    rw [hby] at hr
    simp only [strs, List.length_map, List.length_take, List.length_drop, reachBytes] at hr
    have hsl : n' ≤ ss.length := by rw [hlen]; split <;> omega
    omega
end
end Go.Proofs.Ytkpmkabddhpojaa.Sc
