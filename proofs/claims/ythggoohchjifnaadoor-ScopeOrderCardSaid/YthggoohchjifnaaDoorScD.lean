/- Layer 9: contracts of goingOn and Longest. -/
import Derived.Test.YthggoohchjifnaaDoorScA
import Derived.Test.YthggoohchjifnaaDoorScMath2
import Derived.Test.YthggoohchjifnaaDoorShelf
import Derived.Test.YthggoohchjifnaaDoorRange
set_option linter.unusedVariables false
set_option linter.unusedSimpArgs false
namespace Go.Proofs.YthggoohchjifnaaDoor.Sc
open Go Go.Proofs.YthggoohchjifnaaDoor Go.Proofs.YthggoohchjifnaaDoor.Utf Go.Proofs.YthggoohchjifnaaDoor.Names Go.RowKit
set_option maxRecDepth 100000

theorem tless (a b : List UInt8) : Op.bytesLess (text a).toList (text b).toList = Op.bytesLess a b := by rw [tlist, tlist]
theorem tpre (a b : List UInt8) : Lib.hasPrefix (text a).data.toList (text b).data.toList = b.isPrefixOf a := by rw [text_data, text_data]; rfl

/-- The three variables that both closures read. -/
structure Vars (b1 b2 b3 : Nat) (v : Value) (front : Nat) (x : List UInt8) (W : World) : Prop where
  c1 : W.cell? ⟨b1, 0, none⟩ = some v
  c2 : W.cell? ⟨b2, 0, none⟩ = some (.int .i64 front)
  c3 : W.cell? ⟨b3, 0, none⟩ = some (.string (text x))

set_option maxHeartbeats 1000000 in
theorem going1_any (b1 b2 b3 : Nat) (v : Value) (l : List (List UInt8)) (front : Nat) (x : List UInt8) (W : World) (hc : Vars b1 b2 b3 v front x W) (hv : Strs W v l) (i : Nat) (hi : i < l.length) (hf : front ≤ l[i].length) :
    Calls Tryd.prog 44 #[.int .i64 i, .pointer (some ⟨b1, 0, none⟩), .pointer (some ⟨b2, 0, none⟩), .pointer (some ⟨b3, 0, none⟩)] W fun e w' => e = .returned (.bool (!Op.bytesLess (l[i].drop front) x)) ∧ ∃ q, w' = W.drewN q := by
  obtain ⟨b, o, hix, hcl⟩ := hv.at (P := Tryd.prog) i hi 22 9 Tryd.underlying22 Tryd.sizeOf9
  obtain ⟨c1, c2, c3⟩ := hc
  generalize l[i] = y at *
  have hs : (front : Int) ≤ ((text y).size : Int) := by rw [text_size]; omega
  have he := text_extract y front
  have hl := tless (y.drop front) x
  clear hv hf
  generalize Op.bytesLess (y.drop front) x = r at *
  go_enter Tryd.func44, Tryd.ntmps44
  go_wp2_with fail
  go_quiet (fail)
  go_wp2
  go_ret
  exact ⟨rfl, _, rfl⟩

set_option maxHeartbeats 1000000 in
theorem going2_any (b1 b2 b3 : Nat) (v : Value) (l : List (List UInt8)) (front : Nat) (x : List UInt8) (W : World) (hc : Vars b1 b2 b3 v front x W) (hv : Strs W v l) (i : Nat) (hi : i < l.length) (hf : front ≤ l[i].length) :
    Calls Tryd.prog 45 #[.int .i64 i, .pointer (some ⟨b1, 0, none⟩), .pointer (some ⟨b2, 0, none⟩), .pointer (some ⟨b3, 0, none⟩)] W fun e w' => e = .returned (.bool (!x.isPrefixOf (l[i].drop front))) ∧ ∃ q, w' = W.drewN q := by
  obtain ⟨b, o, hix, hcl⟩ := hv.at (P := Tryd.prog) i hi 22 9 Tryd.underlying22 Tryd.sizeOf9
  obtain ⟨c1, c2, c3⟩ := hc
  generalize l[i] = y at *
  have hs : (front : Int) ≤ ((text y).size : Int) := by rw [text_size]; omega
  have he := text_extract y front
  have HP := hid (fun W => by
    have := Tryd.strings_HasPrefix (text (y.drop front)) (text x) W
    rw [tpre] at this
    exact this)
  clear hv hf
  generalize x.isPrefixOf (y.drop front) = r at *
  go_enter Tryd.func45, Tryd.ntmps45
  go_wp2_with fail
  go_quiet ((go_at_call 46; refine Calls.quiet_of_same (HP.out _)))
  go_wp2
  go_ret
  exact ⟨rfl, _, rfl⟩

set_option maxHeartbeats 4000000 in
theorem goingOn_any (v : Value) (l : List (List UInt8)) (pre x : List UInt8) (w : World) (hv : Strs w v l) (hr : Rise l) (hp : ∀ y ∈ l, pre.isPrefixOf y = true) :
    Calls Tryd.prog 32 #[v, .int .i64 pre.length, .string (text x)] w fun e w' => ∃ v', e = .returned v' ∧ Strs w' v' (l.filter fun y => x.isPrefixOf (y.drop pre.length)) ∧ Below w.heap.size w w' := by
  have hle := hv.le
  have hpl : ∀ i (h : i < l.length), pre.length ≤ l[i].length := fun i h => by
    obtain ⟨z, e⟩ := List.isPrefixOf_iff_prefix.1 (hp _ (List.getElem_mem h))
    rw [← e, List.length_append]; omega
  have less : ∀ i j (hi : i < l.length) (hj : j < l.length), i < j → Op.bytesLess (l[i].drop pre.length) (l[j].drop pre.length) = true := fun i j hi hj hij => by
    have h := List.pairwise_iff_getElem.1 hr i j hi hj hij
    obtain ⟨y, e1⟩ := List.isPrefixOf_iff_prefix.1 (hp _ (List.getElem_mem hi))
    obtain ⟨z, e2⟩ := List.isPrefixOf_iff_prefix.1 (hp _ (List.getElem_mem hj))
    rw [← e1, ← e2, less_pre] at h
    rw [← e1, ← e2, List.drop_left, List.drop_left]
    exact h
  have hlen := fun W => hv.len (P := Tryd.prog) 22 3 9 Tryd.underlying22 W
  obtain ⟨av, cv, rfl⟩ : ∃ av cv, v = .slice av l.length cv := by
    obtain ⟨⟨a, c, rfl, _⟩, _⟩ := hv
    exact ⟨a, c, rfl⟩
  obtain ⟨W0, hW0⟩ : ∃ W0, ((w.alloc (.cells #[.slice av l.length cv] 22)).alloc (.cells #[.int .i64 pre.length] 3)).alloc (.cells #[.string (text x)] 9) = W0 := ⟨_, rfl⟩
  have hz0 : W0.heap.size = w.heap.size + 1 + 1 + 1 := by rw [← hW0]; simp
  have hb0 : Below w.heap.size w W0 := by rw [← hW0]; exact ((((Below.refl _ w).alloc (Nat.le_refl _) _).alloc (by simp) _).alloc (by simp; omega) _)
  have hk1 : W0.heap[w.heap.size]? = some (.cells #[.slice av l.length cv] 22 (0, 0)) := by
    rw [← hW0, Below.heap_alloc _ _ _ (by simp; omega), Below.heap_alloc _ _ _ (by simp)]
    exact World.alloc_heap_new w _
  have hk2 : W0.heap[w.heap.size + 1]? = some (.cells #[.int .i64 pre.length] 3 (0, 0)) := by
    rw [← hW0, Below.heap_alloc _ _ _ (by simp)]
    have := World.alloc_heap_new (w.alloc (.cells #[.slice av l.length cv] 22)) (.cells #[.int .i64 pre.length] 3)
    rwa [World.size_alloc] at this
  have hk3 : W0.heap[w.heap.size + 1 + 1]? = some (.cells #[.string (text x)] 9 (0, 0)) := by
    rw [← hW0]
    have := World.alloc_heap_new ((w.alloc (.cells #[.slice av l.length cv] 22)).alloc (.cells #[.int .i64 pre.length] 3)) (.cells #[.string (text x)] 9)
    rwa [World.size_alloc, World.size_alloc] at this
  have V0 : Vars w.heap.size (w.heap.size + 1) (w.heap.size + 1 + 1) (.slice av l.length cv) pre.length x W0 := ⟨by rw [Lib.cell_of_heap hk1]; rfl, by rw [Lib.cell_of_heap hk2]; rfl, by rw [Lib.cell_of_heap hk3]; rfl⟩
  have hv0 : Strs W0 (.slice av l.length cv) l := hv.below hb0 (Nat.le_refl _)
  have f0 : W0.frozen? ⟨w.heap.size, 0, none⟩ = false := Lib.frozen_of_heap hk1 0
  have c0 := V0.c1
  have eg1 : ∀ args w, (callFunc 44 args).run Tryd.prog w = .ok (.enter 44 args) w := enters_of Tryd.func44 (by kernel_rfl) rfl
  have eg2 : ∀ args w, (callFunc 45 args).run Tryd.prog w = .ok (.enter 45 args) w := enters_of Tryd.func45 (by kernel_rfl) rfl
  have S1 := hid (Search_any 44 #[.pointer (some ⟨w.heap.size, 0, none⟩), .pointer (some ⟨w.heap.size + 1, 0, none⟩), .pointer (some ⟨w.heap.size + 1 + 1, 0, none⟩)] l.length
    (fun i => !Op.bytesLess ((l.getD i []).drop pre.length) x) W0 eg1 (by omega)
    (fun m i hi => by
      have := going1_any w.heap.size (w.heap.size + 1) (w.heap.size + 1 + 1) (.slice av l.length cv) l pre.length x (W0.drewN m) ⟨V0.c1, V0.c2, V0.c3⟩ (Row.later hv0 fun _ _ _ => rfl) i hi (hpl i hi)
      rw [show l.getD i [] = l[i] by simp [hi]]
      exact this)
    (fun a b hab hb h => by
      have ha : a < l.length := by omega
      simp only [List.getD, List.getElem?_eq_getElem ha, List.getElem?_eq_getElem hb, Option.getD_some] at h ⊢
      rcases Nat.lt_or_ge a b with c | c
      · have h1 := less a b ha hb c
        cases h2 : Op.bytesLess (l[b].drop pre.length) x
        · rfl
        · have := less_trans h1 h2; rw [this] at h; cases h
      · have : a = b := by omega
        subst this; exact h))
  have HV := hid hv
  have HL := hid hlen
  have HR := hid hr
  have HP := hid hp
  have HPL := hid hpl
  have HLS := hid less
  have HB := hid hb0
  have HK := hid (And.intro hk1 (And.intro hk2 hk3))
  have HV0 := hid V0
  clear hv hr hp hpl less hb0 hk1 hk2 hk3 V0 hv0
  go_enter Tryd.func32, Tryd.ntmps32
  go_wp2_with fail
  refine S1.out.mono ?_
  rintro e w1 ⟨a, rfl, ha, ha1, ha2, q, rfl⟩
  obtain ⟨v1, r1, r2, r3, hv1⟩ := Row.sub (P := Tryd.prog) HV.out a l.length ha (Nat.le_refl _) 22 9 Tryd.underlying22 Tryd.sizeOf9
  have r2' := r2 rfl
  have HV1 : Hid (Strs w v1 (l.drop a)) := hid (by
    have e1 : ((strsOf l).drop (a * 1)).take ((l.length - a) * 1) = strsOf (l.drop a) := by
      rw [List.take_of_length_le (by simp [strsOf])]; simp [strsOf]
    unfold Strs
    rw [e1] at hv1
    rw [show (l.drop a).length = l.length - a by simp]
    exact hv1)
  obtain ⟨av1, cv1, rfl⟩ : ∃ av1 cv1, v1 = .slice av1 (l.length - a) cv1 := by
    obtain ⟨⟨a', c', e, _⟩, _⟩ := hv1
    exact ⟨a', c', e⟩
  have HA := hid (And.intro ha (And.intro ha1 ha2))
  obtain ⟨W2, hW2⟩ : ∃ W2, (W0.drewN q).setCell ⟨w.heap.size, 0, none⟩ (.slice av1 (l.length - a) cv1) = W2 := ⟨_, rfl⟩
  have hb2 : Below w.heap.size w W2 := by rw [← hW2]; exact (below_drewN w HB.out q).setCell (p := ⟨w.heap.size, 0, none⟩) (Nat.le_refl _) _
  have V2 : Vars w.heap.size (w.heap.size + 1) (w.heap.size + 1 + 1) (.slice av1 (l.length - a) cv1) pre.length x W2 := by
    rw [← hW2]
    refine ⟨World.cell?_setCell_same' _ _ _ (by show ((W0.drewN q).cell? _).isSome = true; rw [show (W0.drewN q).cell? ⟨w.heap.size, 0, none⟩ = some (.slice av l.length cv) from c0]; rfl), ?_, ?_⟩
    · rw [World.cell?_setCell_other _ _ _ _ (by simp)]; exact HV0.out.c2
    · rw [World.cell?_setCell_other _ _ _ _ (by simp)]; exact HV0.out.c3
  have hv2 : Strs W2 (.slice av1 (l.length - a) cv1) (l.drop a) := HV1.out.below hb2 (Nat.le_refl _)
  have hdl : (l.drop a).length = l.length - a := by simp
  have hdg : ∀ i (h : i < (l.drop a).length), (l.drop a)[i] = l[a + i]'(by rw [hdl] at h; omega) := fun i h => List.getElem_drop
  have S2 := hid (Search_any 45 #[.pointer (some ⟨w.heap.size, 0, none⟩), .pointer (some ⟨w.heap.size + 1, 0, none⟩), .pointer (some ⟨w.heap.size + 1 + 1, 0, none⟩)] (l.length - a)
    (fun i => !x.isPrefixOf ((l.getD (a + i) []).drop pre.length)) W2 eg2 (by omega)
    (fun m i hi => by
      have hi' : i < (l.drop a).length := by omega
      have := going2_any w.heap.size (w.heap.size + 1) (w.heap.size + 1 + 1) (.slice av1 (l.length - a) cv1) (l.drop a) pre.length x (W2.drewN m) ⟨V2.c1, V2.c2, V2.c3⟩ (Row.later hv2 fun _ _ _ => rfl) i hi' (by rw [hdg i hi']; exact HPL.out _ (by omega))
      rw [show l.getD (a + i) [] = (l.drop a)[i] by rw [hdg i hi']; simp [show a + i < l.length by omega]]
      exact this)
    (fun i j hij hj h => by
      have hi1 : a + i < l.length := by omega
      have hj1 : a + j < l.length := by omega
      simp only [List.getD, List.getElem?_eq_getElem hi1, List.getElem?_eq_getElem hj1, Option.getD_some] at h ⊢
      rcases Nat.lt_or_ge i j with c | c
      · cases h2 : x.isPrefixOf (l[a + j].drop pre.length)
        · rfl
        · have h3 := HA.out.2.2 (a + i) (by omega) hi1
          simp only [List.getD, List.getElem?_eq_getElem hi1, Option.getD_some] at h3
          have h4 := pre_down h2 (by simpa using h3) (HLS.out (a + i) (a + j) hi1 hj1 (by omega))
          rw [h4] at h; cases h
      · have : i = j := by omega
        subst this; exact h))
  have hlen2 := fun W => hv2.len (P := Tryd.prog) 22 3 9 Tryd.underlying22 W
  rw [hdl] at hlen2
  have c2' := V2.c1
  have HB2 := hid hb2
  have HD := hid (show (l.drop a).length = l.length - a by simp)
  have d0 : (W0.drewN q).cell? ⟨w.heap.size, 0, none⟩ = some (.slice av l.length cv) := c0
  have g0 : (W0.drewN q).frozen? ⟨w.heap.size, 0, none⟩ = false := f0
  clear hdg
  clear hb2 V2 hv2 hdl hv1 ha1 ha2 r1 r3
  go_wp2_with fail
  refine S2.out.mono ?_
  rintro e w3 ⟨n, rfl, hn, hn1, hn2, q2, rfl⟩
  have hv2 : Strs W2 (.slice av1 (l.length - a) cv1) (l.drop a) := HV1.out.below HB2.out (Nat.le_refl _)
  obtain ⟨v3, s1, s2, s3, hv3⟩ := Row.sub (P := Tryd.prog) hv2 0 n (Nat.zero_le _) (by rw [HD.out]; exact hn) 22 9 Tryd.underlying22 Tryd.sizeOf9
  have s3' := s3 rfl
  have e3 : (W2.drewN q2).cell? ⟨w.heap.size, 0, none⟩ = some (.slice av1 (l.length - a) cv1) := c2'
  clear s1 s2 hv2
  go_wp2
  go_ret
  have hres : l.filter (fun y => x.isPrefixOf (y.drop pre.length)) = (l.drop a).take n := by
    obtain ⟨h0, h1, h2⟩ := HA.out
    refine going_on HR.out pre x HP.out a n (by omega) (fun i hi hia => ?_) (fun i hi hia => ?_) (fun i hi hia hin => ?_) (fun hi => ?_)
    · have := h1 i hia
      simp only [List.getD, List.getElem?_eq_getElem hi, Option.getD_some] at this
      simpa using this
    · have := h2 i hia hi
      simp only [List.getD, List.getElem?_eq_getElem hi, Option.getD_some] at this
      simpa using this
    · have := hn1 (i - a) (by omega)
      rw [show a + (i - a) = i by omega] at this
      simp only [List.getD, List.getElem?_eq_getElem hi, Option.getD_some] at this
      simpa using this
    · have := hn2 n (Nat.le_refl _) (by omega)
      simp only [List.getD, List.getElem?_eq_getElem hi, Option.getD_some] at this
      simpa using this
  refine ⟨_, rfl, ?_, below_drewN w HB2.out q2⟩
  rw [hres]
  have e1 : ((strsOf (l.drop a)).drop (0 * 1)).take ((n - 0) * 1) = strsOf ((l.drop a).take n) := by simp [strsOf, List.map_take]
  rw [e1] at hv3
  unfold Strs
  rw [show ((l.drop a).take n).length = n - 0 by rw [List.length_take, HD.out]; omega]
  exact Row.later hv3 fun _ _ _ => rfl
end Go.Proofs.YthggoohchjifnaaDoor.Sc
