/- Layer 9: rows of texts as arguments, each of a size that there is. -/
import Derived.Test.YthggoohchjifnaaDoorScO
import Derived.SizedLaws
set_option linter.unusedVariables false
set_option linter.unusedSimpArgs false
namespace Go.Proofs.YthggoohchjifnaaDoor.Sc
open Go Go.Proofs.YthggoohchjifnaaDoor Go.ChangeShapes Go.WideShapes Go.ChangeAt Go.RowKit
section
variable {H : Type} {enc : TypeId × Value → H} {P : Program} {w : World} {base : Nat} {spare : Nat → Bool} {held : Bool}
theorem strs_weights (e : TypeId) : ∀ (ss : List ByteArray) (s : ByteArray), s ∈ ss → s.data.toList.length ∈ DataW.weightsAll (H := H) P e (strs ss)
  | [], s, h => by cases h
  | y :: ss, s, h => by
    show _ ∈ DataW.weightsAll (H := H) P e (_ :: strs ss)
    unfold DataW.weightsAll
    rcases List.mem_cons.1 h with rfl | h
    · exact List.mem_append.2 (.inl (by simp [DataW.weights]))
    · exact List.mem_append.2 (.inr (strs_weights e ss s h))
theorem open_strs_wide {t e : TypeId} (ht : P.underlying t = some (.slice e)) (he : P.underlying e = some .string) (hc : P.cellsOf e = 1) {fuel : Nat} {v : Value} {x : DataW H × List MemPlace}
    (h : DataW.trod enc P w base spare held fuel t [v] = some x) (hb : ∀ a n c, v = .slice (some a) n c → n ≤ 281474976710656) (hw : ∀ ss : List ByteArray, (∃ r, x.1 = .slice (strs ss) r) → ∀ s ∈ ss, s.data.toList.length ≤ 140737488355328) : ∃ l : List (List UInt8), Strs w v l ∧ ∀ x ∈ l, x.length ≤ 140737488355328 := by
  rcases open_strings ht he hc h with ⟨hv, hx⟩ | ⟨a, len, cap, ss, hv, hbs, hl, hm, hlen, hx, hcell, hmax⟩
  · obtain rfl : v = .slice none 0 0 := by simpa using hv
    exact ⟨[], Row.nil 1 w, by simp⟩
  obtain rfl : v = .slice (some a) len cap := by simpa using hv
  have hsl : len ≤ ss.length := by rw [hlen]; split <;> omega
  have hll : ((ss.take len).map fun s => s.data.toList).length = len := by simp; omega
  refine ⟨(ss.take len).map fun s => s.data.toList, ?_, ?_⟩
  · unfold Strs
    rw [hll]
    refine ⟨⟨some a, cap, rfl, hl, hm, hb a len cap rfl, (fun e => by cases e), fun h0 => ?_⟩, by rw [strsOf_length, hll]; omega⟩
    rw [strsOf_length, hll] at h0
    obtain ⟨b, off, spot⟩ := a
    have h1 := hcell 0 (by omega)
    have hspot : spot = none := by simpa [Addr.add] using World.cell?_spot h1
    subst hspot
    refine ⟨b, off, rfl, fun j u hj => ?_⟩
    have hjl : j < len := by
      have := (List.getElem?_eq_some_iff.1 hj).1
      rw [strsOf_length, hll] at this; exact this
    have h2 := hcell j (by omega)
    rw [Addr.add_lit] at h2
    rw [h2]
    have hjs : j < ss.length := by omega
    have : (strsOf ((ss.take len).map fun s => s.data.toList))[j]? = some (.string ss[j]) := by
      simp [strsOf, hjl, hjs, List.getElem_take, text_back]
    rw [this] at hj
    rw [← hj]
    simp [hjs]
  · intro y hy
    obtain ⟨s, hs, rfl⟩ := List.mem_map.1 hy
    exact hw (ss.take len) ⟨_, congrArg Prod.fst hx⟩ s hs
/-- Texts that came in: none is longer than there are addresses. -/
theorem arg_strs_wide {t e : TypeId} {b0 : Nat} {v : Value} {d : DataW H} {ps : List MemPlace} (ht : P.underlying t = some (.slice e)) (he : P.underlying e = some .string) (hc : P.cellsOf e = 1) (hby : P.bytesOf e = 16)
    (hval : Value.okWide P w .any b0 t v) (h : DataW.Trod enc P w 0 (fun _ => true) true t v d ps)
    {ts : List TypeId} {ds : List (DataW H)} (hsz : (DataW.weightsEach P ts ds).all (· ≤ reachBytes) = true) (j : Nat) (hts : ts[j]? = some t) (hds : ds[j]? = some d) :
    ∃ l : List (List UInt8), Strs w v l ∧ ∀ x ∈ l, x.length ≤ 140737488355328 := by
  obtain ⟨a, n, c, rfl⟩ := okWide_slice ht hval
  obtain ⟨fuel, hf⟩ := h
  refine open_strs_wide ht he hc (x := (d, ps)) (by simpa [Value.cells] using hf) (fun a' n' c' e => ?_) (fun ss hd s hs => ?_)
  · rcases open_strings ht he hc (x := (d, ps)) (by simpa [Value.cells] using hf) with ⟨hv, hx⟩ | ⟨x, len, cap, ss, hv, hbs, hl, hm, hlen, hx, hcell, hmax⟩
    · rw [e] at hv; simp at hv
    · obtain ⟨rfl, rfl, rfl⟩ : n' = len ∧ c' = cap ∧ a' = x := by rw [e] at hv; simp at hv; exact ⟨hv.2.1, hv.2.2, hv.1⟩
      have hd : d = .slice (strs (ss.take n')) (strs (ss.drop n')) := congrArg Prod.fst hx
      subst hd
      have hr := sized_slice hsz hts hds ht
      rw [hby] at hr
      simp only [strs, List.length_map, List.length_take, List.length_drop, reachBytes] at hr
      have hsl : n' ≤ ss.length := by rw [hlen]; split <;> omega
      omega
  · obtain ⟨r, hd⟩ := hd
    have hm := DataW.weights_mem_each (P := P) hts hds s.data.toList.length (by
      have hd' : d = .slice (strs ss) r := hd
      rw [hd']
      simp only [DataW.weights, ht]
      exact List.mem_cons_of_mem _ (List.mem_append.2 (.inl (strs_weights e ss s hs))))
    have h2 : s.data.toList.length ≤ reachBytes := of_decide_eq_true (List.all_eq_true.1 hsz _ hm)
    exact Nat.le_trans h2 (by decide)
end
end Go.Proofs.YthggoohchjifnaaDoor.Sc
