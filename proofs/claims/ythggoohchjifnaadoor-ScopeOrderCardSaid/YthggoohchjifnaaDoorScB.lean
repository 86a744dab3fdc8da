/- Layer 9: rows of texts that the call owns: slices.Clone, Sort, Compact; in order, each once. -/
import Derived.Test.YthggoohchjifnaaDoorScA
import Derived.Test.YthggoohchjifnaaDoorApp
import Derived.Test.YthggoohchjifnaaDoorShelf
import Derived.Lib.SlicesCompact
set_option linter.unusedVariables false
set_option linter.unusedSimpArgs false
namespace Go.Proofs.YthggoohchjifnaaDoor.Sc
open Go Go.Proofs.YthggoohchjifnaaDoor Go.Proofs.YthggoohchjifnaaDoor.Utf Go.Proofs.YthggoohchjifnaaDoor.Names Go.RowKit Go.Sort Go.Lib
set_option maxRecDepth 100000

/-- A row of texts that the call owns. -/
def OwnS (B : Nat) (w : World) (v : Value) (l : List (List UInt8)) : Prop := w.ownsRow B 9 1 v l.length (strsOf l)
theorem OwnS.nil (B : Nat) (w : World) : OwnS B w (.slice none 0 0) [] := ⟨by simp [strsOf], .inl ⟨rfl, rfl⟩⟩
theorem OwnS.strs {B : Nat} {w : World} {v : Value} {l : List (List UInt8)} (h : OwnS B w v l) (hn : l.length ≤ 281474976710656) : Strs w v l := Row.ofOwns h hn
theorem OwnS.base {B C : Nat} {w : World} {v : Value} {l : List (List UInt8)} (h : OwnS B w v l) (hc : C ≤ B) : OwnS C w v l := by
  obtain ⟨h1, h2⟩ := h
  refine ⟨h1, ?_⟩
  rcases h2 with h2 | ⟨g, cap, cur, e, hB, r⟩
  · exact .inl h2
  · exact .inr ⟨g, cap, cur, e, Nat.le_trans hc hB, r⟩
theorem OwnS.form {B : Nat} {w : World} {v : Value} {l : List (List UInt8)} (h : OwnS B w v l) : (v = .slice none 0 0 ∧ l = []) ∨ ∃ g cap, v = .slice (some ⟨g, 0, none⟩) l.length cap ∧ B ≤ g ∧ g < w.heap.size ∧ l.length ≤ cap ∧ cap ≤ maxLen ∧ Holds encStr w g 0 l.toArray := by
  obtain ⟨h1, h2⟩ := h
  rcases h2 with ⟨rfl, h0⟩ | ⟨g, cap, cur, rfl, hB, hg, hn, hc, hs, ht⟩
  · exact .inl ⟨rfl, List.eq_nil_of_length_eq_zero h0⟩
  · refine .inr ⟨g, cap, rfl, hB, (Array.getElem?_eq_some_iff.1 hg).1, hn, hc, fun j hj => ?_⟩
    have hj' : j < l.length := by simpa using hj
    constructor
    · have e1 : cur[j]? = some (encStr l.toArray[j]!) := by
        have e0 : (cur.toList.take (l.length * 1))[j]? = (strsOf l)[j]? := by rw [ht]
        rw [List.getElem?_take, if_pos (by omega)] at e0
        rw [← Array.getElem?_toList, e0]
        simp [strsOf, hj', text]
      simp only [World.cell?, hg]
      simpa using e1
    · simp [World.frozen?, hg]
theorem OwnS.put {B : Nat} {w : World} {g cap : Nat} {l : List (List UInt8)} (h : OwnS B w (.slice (some ⟨g, 0, none⟩) l.length cap) l) (r z : List (List UInt8)) (hd : r.length + z.length = l.length) (q : Nat) (os : Array Obj) :
    OwnS B (grow (putRow encStr (Sort.ahead w q) g 0 (r ++ z).toArray) os) (.slice (some ⟨g, 0, none⟩) r.length cap) r ∧ Below B w (grow (putRow encStr (Sort.ahead w q) g 0 (r ++ z).toArray) os) := by
  obtain ⟨h1, h2⟩ := h
  rcases h2 with ⟨h2, h0⟩ | ⟨g', cap', cur, e, hB, hg, hn, hc, hs, ht⟩
  · cases h2
  obtain ⟨rfl, rfl⟩ : g' = g ∧ cap' = cap := by injection e with e1 e2 e3; injection e1 with e1; injection e1 with e1; exact ⟨e1.symm, e3.symm⟩
  have hlt : g' < w.heap.size := (Array.getElem?_eq_some_iff.1 hg).1
  have hh : (grow (putRow encStr (Sort.ahead w q) g' 0 (r ++ z).toArray) os).heap[g']? = some (.cells (putCells encStr 0 (r ++ z).toArray cur) 9 (0, 0)) := by
    rw [heap_grow_old _ _ (by simpa using hlt)]
    show (w.heap.modify g' (onCells (putCells encStr 0 (r ++ z).toArray)))[g']? = _
    rw [Array.getElem?_modify, if_pos rfl, hg]
    rfl
  refine ⟨⟨by simp [strsOf], .inr ⟨g', cap', _, rfl, hB, hh, by omega, hc, by simpa [putCells] using hs, ?_⟩⟩, ⟨rfl, rfl, rfl, by simp, fun k hk => ?_⟩⟩
  · apply List.ext_getElem?
    intro j
    rw [List.getElem?_take]
    by_cases hj : j < r.length
    · rw [if_pos (by omega), Array.getElem?_toList]
      have hjc : j < cur.size := by omega
      simp only [putCells, Array.getElem?_mapIdx]
      rw [Array.getElem?_eq_getElem hjc]
      simp only [Option.map_some, Nat.zero_le, Nat.zero_add, true_and, List.size_toArray, List.length_append, Nat.sub_zero]
      rw [if_pos (by omega)]
      have hjr : j < (r ++ z).length := by simp; omega
      simp [strsOf, hj, text, getElem!_pos, hjr, List.getElem?_append_left]
    · rw [if_neg (by omega), eq_comm]
      simp [strsOf]; omega
  · rw [heap_grow_old _ _ (by simp; omega)]
    show (w.heap.modify g' _)[k]? = _
    rw [Array.getElem?_modify, if_neg (by omega)]
theorem OwnS.later {B : Nat} {w W : World} {v : Value} {l : List (List UInt8)} (h : OwnS B w v l) (hb : Below w.heap.size w W) : OwnS B W v l := owns_later h hb

theorem Clone_any (v : Value) (l : List (List UInt8)) (w : World) (hv : Strs w v l) (hl : l.length ≤ 1000000) :
    Calls Tryd.prog 24 #[v] w fun e w' => ∃ v', e = .returned v' ∧ OwnS w.heap.size w' v' l ∧ Below w.heap.size w w' := by
  obtain ⟨⟨a, c, rfl, h1, h2, h3, h4, h5⟩, h6⟩ := hv
  cases a with
  | none =>
    have hc := h4 rfl
    subst hc
    have h0 : l = [] := List.eq_nil_of_length_eq_zero (by omega)
    subst h0
    refine (Tryd.slices_Clone_string_nil 0 0 w).mono ?_
    rintro e w' ⟨rfl, rfl⟩
    exact ⟨_, rfl, OwnS.nil _ _, Below.refl _ _⟩
  | some a =>
    by_cases h0 : l = []
    · subst h0
      refine (Tryd.slices_Clone_string_zero a c w).mono ?_
      rintro e w' ⟨v', rfl, ho, _, hb⟩
      exact ⟨v', rfl, ho, hb⟩
    · have hlen : 0 < l.length := List.length_pos_iff.2 h0
      obtain ⟨b, off, e1, h8⟩ := h5 (by rw [strsOf_length]; exact hlen)
      obtain rfl : a = ⟨b, off, none⟩ := by injection e1
      refine (Tryd.slices_Clone_string b off l.length c (l.map text) w (by simp) (by omega) (fun j hj => ?_)).mono ?_
      · have hj' : j < l.length := by simpa using hj
        rw [h8 j (.string (text l[j])) (by simp [strsOf, hj'])]
        simp [hj']
      · rintro e w' ⟨v', rfl, ho, _, hb⟩
        refine ⟨v', rfl, ?_, hb⟩
        have e2 : ((l.map text).take l.length).map Value.string = strsOf l := by
          rw [List.take_of_length_le (by simp)]; simp [strsOf]
        rw [e2] at ho
        exact ho

/-- In their order. -/
def srt (l : List (List UInt8)) : List (List UInt8) := l.mergeSort fun x y => decide (x ≤ y)
theorem le_less (x y : List UInt8) : decide (x ≤ y) = !Op.bytesLess y x := by
  rw [bytesLess_eq]
  by_cases h : y < x
  · rw [decide_eq_true h, decide_eq_false (fun h2 => h2 h)]; rfl
  · rw [decide_eq_false h, decide_eq_true (show x ≤ y from h)]; rfl
theorem srt_perm (l : List (List UInt8)) : (srt l).Perm l := List.mergeSort_perm _ _
theorem srt_length (l : List (List UInt8)) : (srt l).length = l.length := (srt_perm l).length_eq
theorem srt_rise (l : List (List UInt8)) : (srt l).Pairwise fun a b => Op.bytesLess b a = false := by
  have := List.pairwise_mergeSort (le := fun x y : List UInt8 => decide (x ≤ y)) (fun a b c h1 h2 => by
    rw [le_less] at *
    simp only [Bool.not_eq_true'] at *
    cases h : Op.bytesLess c a
    · rfl
    · by_cases e : b = c
      · subst e; rw [h] at h1; cases h1
      · rcases less_total e with h3 | h3
        · have := less_trans h3 h; rw [h1] at this; cases this
        · rw [h2] at h3; cases h3) (fun a b => by
    rw [le_less, le_less]
    cases h : Op.bytesLess b a
    · rfl
    · rw [less_asymm h]; rfl) l
  refine this.imp fun {a b} h => ?_
  rw [le_less] at h
  simpa using h
/-- In their order, each once. -/
def norm (l : List (List UInt8)) : List (List UInt8) := compactUpTo (srt l).toArray (srt l).length
theorem norm_facts (l : List (List UInt8)) : Rise (norm l) ∧ (∀ z, z ∈ norm l ↔ z ∈ l) ∧ (norm l).length ≤ l.length := by
  have hs := srt_rise l
  have hp := srt_perm l
  have hlen := srt_length l
  generalize hd : srt l = d at *
  have hat : ∀ j, j < d.length → d.toArray[j]! = d[j]! := fun j hj => by simp
  have key : ∀ m, m ≤ d.length → Rise (compactUpTo d.toArray m) ∧ (∀ z, z ∈ compactUpTo d.toArray m ↔ ∃ j, j < m ∧ d[j]? = some z) ∧ (compactUpTo d.toArray m).length ≤ m := by
    intro m
    induction m with
    | zero => intro _; exact ⟨by simp [compactUpTo, Rise], fun z => by simp [compactUpTo], by simp [compactUpTo]⟩
    | succ m ih =>
      intro hm
      obtain ⟨i1, i2, i3⟩ := ih (by omega)
      have hml : m < d.length := by omega
      have e1 : d.toArray[m]! = d[m] := by simp [hml]
      rw [compactUpTo_succ]
      by_cases hk : keeps d.toArray m = true
      · rw [if_pos hk, e1]
        have hk' : m = 0 ∨ d.toArray[m]! ≠ d.toArray[m - 1]! := by simpa [keeps] using hk
        refine ⟨?_, fun z => ?_, by simp; omega⟩
        · refine List.pairwise_append.2 ⟨i1, by simp, fun a ha b hb => ?_⟩
          rw [List.mem_singleton] at hb
          subst hb
          obtain ⟨j, hj, ej⟩ := (i2 a).1 ha
          obtain ⟨hjl, rfl⟩ := List.getElem?_eq_some_iff.1 ej
          have hne : d[m] ≠ d[m - 1]'(by omega) := by
            rcases hk' with h | h
            · omega
            · rw [e1] at h
              have e2 : d.toArray[m - 1]! = d[m - 1]'(by omega) := by simp [show m - 1 < d.length from by omega]
              rw [e2] at h; exact h
          have h1 := List.pairwise_iff_getElem.1 hs (m - 1) m (by omega) hml (by omega)
          have h2 : Op.bytesLess (d[m - 1]'(by omega)) d[m] = true := (less_total hne).resolve_left (by rw [h1]; simp)
          rcases Nat.lt_or_ge j (m - 1) with c | c
          · have h3 := List.pairwise_iff_getElem.1 hs j (m - 1) hjl (by omega) c
            by_cases e : d[j] = d[m - 1]'(by omega)
            · rw [e]; exact h2
            · exact less_trans ((less_total e).resolve_right (by rw [h3]; simp)) h2
          · have e : j = m - 1 := by omega
            subst e; exact h2
        · rw [List.mem_append, i2, List.mem_singleton]
          constructor
          · rintro (⟨j, hj, e⟩ | rfl)
            · exact ⟨j, by omega, e⟩
            · exact ⟨m, by omega, List.getElem?_eq_getElem hml⟩
          · rintro ⟨j, hj, e⟩
            rcases Nat.lt_or_ge j m with c | c
            · exact .inl ⟨j, c, e⟩
            · have : j = m := by omega
              subst this
              rw [List.getElem?_eq_getElem hml] at e
              exact .inr (Option.some.inj e).symm
      · rw [if_neg hk, List.append_nil]
        have hk' : ¬ (m = 0 ∨ d.toArray[m]! ≠ d.toArray[m - 1]!) := by simpa [keeps] using hk
        have hm0 : m ≠ 0 := fun h => hk' (.inl h)
        have hee : d.toArray[m]! = d.toArray[m - 1]! := Classical.byContradiction fun h => hk' (.inr h)
        have e2 : d.toArray[m - 1]! = d[m - 1]'(by omega) := by simp [show m - 1 < d.length from by omega]
        rw [e1, e2] at hee
        refine ⟨i1, fun z => ?_, by omega⟩
        rw [i2]
        constructor
        · rintro ⟨j, hj, e⟩; exact ⟨j, by omega, e⟩
        · rintro ⟨j, hj, e⟩
          rcases Nat.lt_or_ge j m with c | c
          · exact ⟨j, c, e⟩
          · have : j = m := by omega
            subst this
            rw [List.getElem?_eq_getElem hml, hee] at e
            exact ⟨j - 1, by omega, by rw [List.getElem?_eq_getElem (by omega)]; exact e⟩
  obtain ⟨k1, k2, k3⟩ := key d.length (Nat.le_refl _)
  have hn : norm l = compactUpTo d.toArray d.length := by unfold norm; rw [hd]
  rw [hn]
  refine ⟨k1, fun z => ?_, by omega⟩
  rw [k2, ← hp.mem_iff]
  constructor
  · rintro ⟨j, _, e⟩; exact List.mem_of_getElem? e
  · intro h
    obtain ⟨j, hj, e⟩ := List.mem_iff_getElem.1 h
    exact ⟨j, hj, by rw [List.getElem?_eq_getElem hj, e]⟩

theorem Sort_own {B : Nat} (v : Value) (l : List (List UInt8)) (w : World) (ho : OwnS B w v l) (hl : l.length ≤ 1000000) :
    Calls Tryd.prog 25 #[v] w fun e w' => e = .returned (.tuple #[]) ∧ OwnS B w' v (srt l) ∧ Below B w w' := by
  rcases ho.form with ⟨rfl, rfl⟩ | ⟨g, cap, rfl, hB, hg, hn, hc, hH⟩
  · refine (Tryd.slices_Sort_string_none none 0 w).mono ?_
    rintro e w' ⟨rfl, rfl⟩
    exact ⟨rfl, by rw [show srt [] = [] from by simp [srt]]; exact OwnS.nil _ _, Below.refl _ _⟩
  · refine (Tryd.slices_Sort_string g 0 cap l w hH hg (by omega)).mono ?_
    rintro e w' ⟨rfl, n, os, rfl⟩
    have := ho.put (srt l) [] (by rw [srt_length]; simp) n os
    rw [List.append_nil, srt_length] at this
    exact ⟨rfl, this⟩

set_option maxHeartbeats 1000000 in
theorem Compact_nil (w : World) : Calls Tryd.prog 26 #[.slice none 0 0] w fun e w' => e = .returned (.slice none 0 0) ∧ w' = w := by
  go_enter Tryd.func26, Tryd.ntmps26
  go_wp2
  go_ret
  exact ⟨rfl, rfl⟩
theorem eql_str : EqlAt Tryd.prog 9 encStr (fun x y => decide (x = y)) := ⟨fun x y w => by
    rw [show (encStr x) = .string (text x) from rfl, show (encStr y) = .string (text y) from rfl, (EqlAt.string Tryd.prog 9).1 (text x) (text y) w]; show Result.ok (Value.bool ((text x).toList == (text y).toList)) w = _; rw [teq], fun op a b x y w => (GuardAt.string Tryd.prog 9) op a b (text x) (text y) w⟩
theorem neq_str : NeqAt Tryd.prog 9 encStr (fun x y => decide (x = y)) := ⟨fun x y w => by
    rw [show (encStr x) = .string (text x) from rfl, show (encStr y) = .string (text y) from rfl, (NeqAt.string Tryd.prog 9).1 (text x) (text y) w]; show Result.ok (Value.bool (!((text x).toList == (text y).toList))) w = _; rw [teq], fun op a b x y w => (GuardAt.string Tryd.prog 9) op a b (text x) (text y) w⟩
theorem Compact_own {B : Nat} (v : Value) (l : List (List UInt8)) (w : World) (ho : OwnS B w v l) (hl : l.length ≤ 1000000) :
    Calls Tryd.prog 26 #[v] w fun e w' => ∃ v', e = .returned v' ∧ OwnS B w' v' (compactUpTo l.toArray l.length) ∧ Below B w w' := by
  rcases ho.form with ⟨rfl, rfl⟩ | ⟨g, cap, rfl, hB, hg, hn, hc, hH⟩
  · refine (Compact_nil w).mono ?_
    rintro e w' ⟨rfl, rfl⟩
    exact ⟨_, rfl, OwnS.nil _ _, Below.refl _ _⟩
  · have hle : (compactUpTo l.toArray l.length).length ≤ l.length := by
      unfold compactUpTo
      rw [List.length_map]
      exact Nat.le_trans (List.length_filter_le _ _) (by simp)
    have hcon := Tryd.slices_Compact encStr (fun _ => rfl) eql_str neq_str [] (fun w => by rw [show encStr [] = .string ByteArray.empty from rfl]; exact Tryd.zeroValue9 w) g 0 cap l.toArray w hH (by simp; omega) (by simpa using hn)
    rw [show l.toArray.size = l.length from by simp] at hcon
    refine hcon.mono ?_
    rintro e w' ⟨rfl, n, rfl⟩
    have := ho.put (compactUpTo l.toArray l.length) (List.replicate (l.length - (compactUpTo l.toArray l.length).length) []) (by simp; omega) n #[]
    rw [grow_empty] at this
    exact ⟨_, rfl, this⟩
end Go.Proofs.YthggoohchjifnaaDoor.Sc
