/- Layer 10, mathematics: tests beside others; expressions in expressions; names that all are needed; the examples. -/
import Derived.Test.YtkmdclfkmmlloaaGreatDoorXbX
import Derived.Test.YtkmdclfkmmlloaaGreatDoorXpF
set_option linter.unusedVariables false
set_option linter.unusedSimpArgs false
namespace Go.Proofs.YtkmdclfkmmlloaaGreatDoor.Xp
open Go Go.Proofs.YtkmdclfkmmlloaaGreatDoor Go.Proofs.YtkmdclfkmmlloaaGreatDoor.Sc Go.Proofs.YtkmdclfkmmlloaaGreatDoor.Names
set_option maxRecDepth 100000

theorem checkV_of {e : Ex} (h : e.depth ≤ 200) : checkV e = chk e true := by unfold checkV; rw [if_neg (by omega)]
theorem freeV_of {e : Ex} (h : e.depth ≤ 200) : freeV e = norm (rd [] 9223372036854775807 0 e [] []).2 := by unfold freeV; rw [if_neg (by omega)]
theorem freeV_facts {e : Ex} (hd : e.depth ≤ 200) (hm : e.mass ≤ 2000000) : Rise (freeV e) ∧ ∀ z, z ∈ freeV e ↔ z ∈ fr e [] := by
  rw [freeV_of hd]
  exact ⟨(norm_facts _).1, free_mem hd hm⟩
theorem freeV_len (e : Ex) (hm : e.mass ≤ 2000000) : 3 * (freeV e).length ≤ e.mass + 774 := by
  by_cases hd : e.depth ≤ 200
  · obtain ⟨h1, h2⟩ := freeV_facts hd hm
    have := few_nams (e := e) (B := freeV e) (more := []) (fun z hz => .inl (fr_nams e [] z ((h2 z).1 hz)))
    rw [few_nodup h1.nodup] at this
    simp only [List.length_nil] at this
    omega
  · unfold freeV; rw [if_pos (by omega)]; simp
theorem nams_mem : ∀ (N : Nat) (e : Ex) (z : Nam), e.size ≤ N → z ∈ nams e → z.length ≤ e.mass := by
  intro N
  induction N with
  | zero => intro e z h; have := e.size_pos; omega
  | succ N ih =>
    intro e z hN h
    obtain ⟨k, s, nm, l⟩ := e
    simp only [nams, List.mem_cons, List.mem_append] at h
    simp only [Ex.mass]
    rcases h with rfl | h | h
    · omega
    · have := namesMass_mem h; omega
    · have : ∀ l : List Ex, z ∈ namsL l → sizeL l ≤ N → z.length ≤ massL l := by
        intro l
        induction l with
        | nil => intro h; simp [namsL] at h
        | cons p ps ihp =>
          intro h hs
          simp only [namsL, List.mem_append] at h
          simp only [sizeL] at hs
          simp only [massL]
          rcases h with h | h
          · have := ih p z (by omega) h; omega
          · have := ihp h (by omega); omega
      have := this l h (by simp only [Ex.size] at hN; omega)
      omega
theorem freeV_mem {e : Ex} (hm : e.mass ≤ 2000000) {z : Nam} (hz : z ∈ freeV e) : z.length ≤ 2000000 := by
  by_cases hd : e.depth ≤ 200
  · have := nams_mem _ e z (Nat.le_refl _) (fr_nams e [] z (((freeV_facts hd hm).2 z).1 hz))
    omega
  · unfold freeV at hz; rw [if_pos (by omega)] at hz; cases hz
/- Tests. -/
theorem alone19 {s : Nam} (h : s ∈ tests) : alone 19 s [] 1 true = 0 ∧ alone 19 s [] 1 false = 17 := by
  simp only [tests, List.mem_cons, List.not_mem_nil, or_false] at h
  rcases h with rfl | rfl | rfl | rfl <;> decide +kernel
theorem tests_len {s : Nam} (h : s ∈ tests) : s.length ≤ 2 := by
  simp only [tests, List.mem_cons, List.not_mem_nil, or_false] at h
  rcases h with rfl | rfl | rfl | rfl <;> decide
section
variable {x : Ex} {s : Nam}
theorem right_false (hx : checkV x = 0) (hk : x.kind ≠ 19) (t : Bool) : chk x t = 0 := by rw [chk_any hk t true]; exact (checkV_zero.1 hx).2
theorem test_false (hs : s ∈ tests) : chk (.mk 19 s [] [x]) false = 17 := by
  rw [chk_mk]
  simp [alone19 hs]
theorem test_true (hx : checkV x = 0) (hk : x.kind ≠ 19) (hs : s ∈ tests) : chk (.mk 19 s [] [x]) true = 0 := by
  rw [chk_mk]
  simp [alone19 hs, chkL, right_false hx hk]
theorem test_depth (x : Ex) (s : Nam) : (Ex.mk 19 s [] [x]).depth = 1 + x.depth := by simp [Ex.depth, depthL]
theorem out_17 (hx : checkV x = 0) (hd : x.depth ≤ 100) (hs : s ∈ tests) : checkV (.mk 7 [] [] [.mk 19 s [] [x], x]) = 17 := by
  rw [checkV_of (by simp [Ex.depth, depthL]; omega), chk_mk]
  rw [show alone 7 [] [] [Ex.mk 19 s [] [x], x].length true = 0 from by simp; decide +kernel]
  simp [chkL, test_false hs]
theorem neg_17 (hx : checkV x = 0) (hd : x.depth ≤ 100) (hs : s ∈ tests) : checkV (.mk 4 [] [] [.mk 19 s [] [x]]) = 17 := by
  rw [checkV_of (by simp [Ex.depth, depthL]; omega), chk_mk]
  rw [show alone 4 [] [] [Ex.mk 19 s [] [x]].length true = 0 from by simp; decide +kernel]
  simp [chkL, test_false hs]
theorem list_17 (hx : checkV x = 0) (hk : x.kind ≠ 19) (hd : x.depth ≤ 100) (hs : s ∈ tests) : checkV (.mk 16 [] [] [x, .mk 19 s [] [x]]) = 17 := by
  rw [checkV_of (by simp [Ex.depth, depthL]; omega), chk_mk]
  rw [show alone 16 [] [] [x, Ex.mk 19 s [] [x]].length true = 0 from by simp; decide +kernel]
  simp [chkL, test_false hs, right_false hx hk]
theorem test_17 (hx : checkV x = 0) (hd : x.depth ≤ 100) (hs : s ∈ tests) : checkV (.mk 19 [60] [] [.mk 19 s [] [x]]) = 17 := by
  rw [checkV_of (by simp [Ex.depth, depthL]; omega), chk_mk]
  rw [show alone 19 [60] [] [Ex.mk 19 s [] [x]].length true = 0 from by simp; decide +kernel]
  simp [chkL, test_false hs]
theorem deep_17 (hx : checkV x = 0) (hk : x.kind ≠ 19) (hd : x.depth ≤ 100) (hs : s ∈ tests) : checkV (.mk 7 [] [] [x, .mk 16 [] [] [.mk 19 s [] [x]]]) = 17 := by
  rw [checkV_of (by simp [Ex.depth, depthL]; omega), chk_mk]
  rw [show alone 7 [] [] [x, Ex.mk 16 [] [] [.mk 19 s [] [x]]].length true = 0 from by simp; decide +kernel]
  have h16 : chk (.mk 16 [] [] [.mk 19 s [] [x]]) true = 17 := by
    rw [chk_mk]
    rw [show alone 16 [] [] [Ex.mk 19 s [] [x]].length true = 0 from by simp; decide +kernel]
    simp [chkL, test_false hs]
  simp [chkL, h16, right_false hx hk]
theorem t_0 (hx : checkV x = 0) (hk : x.kind ≠ 19) (hd : x.depth ≤ 100) (hs : s ∈ tests) : checkV (.mk 19 s [] [x]) = 0 := by
  rw [checkV_of (by simp [Ex.depth, depthL]; omega)]
  exact test_true hx hk hs
theorem in_0 (hx : checkV x = 0) (hk : x.kind ≠ 19) (hd : x.depth ≤ 100) (hs : s ∈ tests) : checkV (.mk 7 [] [] [x, .mk 19 s [] [x]]) = 0 := by
  rw [checkV_of (by simp [Ex.depth, depthL]; omega), chk_mk]
  rw [show alone 7 [] [] [x, Ex.mk 19 s [] [x]].length true = 0 from by simp; decide +kernel]
  simp [chkL, test_true hx hk hs, right_false hx hk]
theorem in_free (hd : x.depth ≤ 100) (hm : x.mass ≤ 100000) (hs : s ∈ tests) : freeV (.mk 7 [] [] [x, .mk 19 s [] [x]]) = freeV x := by
  have hl := tests_len hs
  obtain ⟨a1, a2⟩ := freeV_facts (e := x) (by omega) (by omega)
  obtain ⟨b1, b2⟩ := freeV_facts (e := .mk 7 [] [] [x, .mk 19 s [] [x]]) (by simp [Ex.depth, depthL]; omega) (by simp [Ex.mass, massL, namesMass]; omega)
  refine Rise.unique b1 a1 fun z => ?_
  rw [a2, b2]
  simp [fr, frL, bro]
theorem in_size : (Ex.mk 7 [] [] [x, .mk 19 s [] [x]]).size = 2 * x.size + 2 := by
  simp [Ex.size, sizeL]; omega
end
/- Expressions in expressions. -/
def stepE (m : Nat) (x : Ex) : Ex := if m = 0 then .mk 4 [] [] [x] else if m = 1 then .mk 16 [] [] [.mk 0 [49] [] [], x] else if m = 2 then .mk 8 [98, 32, 99] [] [x] else .mk 5 [97, 110, 100] [] [x, .mk 0 [50] [] []]
def nest (m : Nat) : Nat → Ex
  | 0 => .mk 3 [97] [] []
  | k + 1 => stepE m (nest m k)
theorem stepE_kind (m : Nat) (x : Ex) : (stepE m x).kind ≠ 19 ∧ (stepE m x).depth = 1 + max 1 x.depth ∧ (stepE m x).mass ≤ x.mass + 6 := by
  have hp := x.depth_pos
  unfold stepE
  split
  · refine ⟨by simp [Ex.kind], ?_, ?_⟩
    · simp [Ex.depth, depthL]; omega
    · simp [Ex.mass, massL, namesMass]; omega
  · split
    · refine ⟨by simp [Ex.kind], ?_, ?_⟩
      · simp [Ex.depth, depthL]
      · simp [Ex.mass, massL, namesMass]; omega
    · split
      · refine ⟨by simp [Ex.kind], ?_, ?_⟩
        · simp [Ex.depth, depthL]; omega
        · simp [Ex.mass, massL, namesMass]; omega
      · refine ⟨by simp [Ex.kind], ?_, ?_⟩
        · simp [Ex.depth, depthL]; omega
        · simp [Ex.mass, massL, namesMass]; omega
theorem nest_kind (m k : Nat) : (nest m k).kind ≠ 19 := by
  cases k with
  | zero => simp [nest, Ex.kind]
  | succ k => exact (stepE_kind m _).1
theorem nest_depth (m : Nat) : ∀ k, (nest m k).depth = k + 1
  | 0 => by simp [nest, Ex.depth, depthL]
  | k + 1 => by
    have := nest_depth m k
    have h := (stepE_kind m (nest m k)).2.1
    simp only [nest]
    omega
theorem nest_mass (m : Nat) : ∀ k, (nest m k).mass ≤ 2 + 6 * k
  | 0 => by simp [nest, Ex.mass, massL, namesMass]
  | k + 1 => by
    have := nest_mass m k
    have h := (stepE_kind m (nest m k)).2.2
    simp only [nest]
    omega
theorem num_0 (t : Bool) : chk (.mk 0 [49] [] []) t = 0 ∧ chk (.mk 0 [50] [] []) t = 0 := by
  cases t <;> decide +kernel
theorem nest_chk (m : Nat) : ∀ k t, chk (nest m k) t = 0
  | 0, t => by
    show chk (.mk 3 [97] [] []) t = 0
    cases t <;> decide +kernel
  | k + 1, t => by
    have h := nest_chk m k
    rw [chk_any (nest_kind m (k + 1)) t true]
    simp only [nest, stepE]
    split
    · rw [chk_mk, show alone 4 [] [] [nest m k].length true = 0 from by simp; decide +kernel]
      simp [chkL, h]
    · split
      · rw [chk_mk, show alone 16 [] [] [Ex.mk 0 [49] [] [], nest m k].length true = 0 from by simp; decide +kernel]
        simp [chkL, h, num_0]
      · split
        · rw [chk_mk, show alone 8 [98, 32, 99] [] [nest m k].length true = 0 from by simp; decide +kernel]
          simp [chkL, h]
        · rw [chk_mk, show alone 5 [97, 110, 100] [] [nest m k, Ex.mk 0 [50] [] []].length true = 0 from by simp; decide +kernel]
          simp [chkL, h, num_0]
theorem nest_check (m k : Nat) : checkV (nest m k) = if k < 200 then 0 else 9 := by
  unfold checkV
  rw [nest_depth, nest_chk]
  by_cases c : k < 200
  · rw [if_pos c, if_neg (by omega)]
  · rw [if_neg c, if_pos (by omega)]
theorem stepE_fit {m : Nat} {x : Ex} (h : x.fit) : (stepE m x).fit := by
  unfold stepE
  split
  · exact ⟨by decide, h, trivial⟩
  · split
    · exact ⟨by decide, ⟨by decide, trivial⟩, h, trivial⟩
    · split
      · exact ⟨by decide, h, trivial⟩
      · exact ⟨by decide, h, ⟨by decide, trivial⟩, trivial⟩
/- Names that all are needed. -/
/-- With all that it needs in scope, all are. -/
theorem scoped_in {e : Ex} {N : List Nam} (hd : e.depth ≤ 200) (hN : N.Nodup) {more : List Nam} (hb : ∀ z ∈ N, z ∈ nams e ∨ z ∈ more) (hm : e.mass + 3 * more.length ≤ 11000) (h : ∀ z ∈ fr e [], z ∈ N) : scopedV N e = 0 := by
  have h1 := few_two (N := N) (a := gv e) hN
  have h2 := few_nams (e := e) (B := N ++ gv e) (more := more) (fun z hz => by
    rcases List.mem_append.1 hz with hz | hz
    · rcases hb z hz with q | q
      · exact .inl q
      · exact .inr (.inr q)
    · rcases gv_nams e z hz with q | q
      · exact .inl q
      · exact .inr (.inl q))
  unfold scopedV
  rw [if_neg (by omega), rd_in N 4096 13 e [] [] [] (by simp) (by omega) h]
theorem scoped_out {e : Ex} {N : List Nam} (hd : e.depth ≤ 200) (hN : N.Nodup) (hb : ∀ z ∈ N, z ∈ nams e) (hm : e.mass ≤ 11000) (h : ∃ z ∈ fr e [], z ∉ N) : scopedV N e = 13 := by
  have h1 := few_two (N := N) (a := gv e) hN
  have h2 := few_nams (e := e) (B := N ++ gv e) (more := []) (fun z hz => by
    rcases List.mem_append.1 hz with hz | hz
    · exact .inl (hb z hz)
    · rcases gv_nams e z hz with q | q
      · exact .inl q
      · exact .inr (.inl q))
  simp only [List.length_nil] at h2
  unfold scopedV
  rw [if_neg (by omega)]
  exact rd_out N 4096 13 (by decide) e [] [] [] (by simp) (by omega) h
/-- The document's Scoped. -/
theorem scoped_rsc {e : Ex} {N : List Nam} (hd : e.depth ≤ 200) (hN : N.Nodup) (hs : Shp e) (hl : N.length ≤ 4096) : scopedV N e = rsc e N := by
  unfold scopedV
  rw [if_neg (by omega)]
  exact rd_rsc N hN e [] [] N hs hN (by simp) (by simp) hl
end Go.Proofs.YtkmdclfkmmlloaaGreatDoor.Xp
