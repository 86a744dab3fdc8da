/- Layer 5: the walk of the statement XmltreeBuilds. -/
import Derived.Test.YthodmdfbahkflaaGreatDoorTreeRl
import Derived.Test.YthodmdfbahkflaaGreatDoorTreeRs
set_option linter.unusedVariables false
set_option linter.unusedSimpArgs false
namespace Go.Proofs.YthodmdfbahkflaaGreatDoor.Tree
open Go Go.Proofs.YthodmdfbahkflaaGreatDoor Go.Proofs.YthodmdfbahkflaaGreatDoor.Utf Go.Proofs.YthodmdfbahkflaaGreatDoor.Names Go.Proofs.YthodmdfbahkflaaGreatDoor.Ent Go.Proofs.YthodmdfbahkflaaGreatDoor.Tok Go.RowKit
set_option maxRecDepth 100000
theorem mass_mem {l : List Tok} {t : Tok} (h : t ∈ l) : tokMass t ≤ toksMass l := mem_sum tokMass l t h
theorem mass_pr {l : List Pr} {p : Pr} (h : p ∈ l) : prMass p ≤ prsMass l := mem_sum prMass l p h
theorem fitR_mass {l : List Tok} (h : toksMass l ≤ 1048576) : ∀ t ∈ l, FitR t := by
  intro t ht
  have h1 := mass_mem ht
  have h2 := prs_len t.attrs
  unfold tokMass at h1
  refine ⟨by omega, by omega, fun p hp => ?_⟩
  have h3 := mass_pr hp
  unfold prMass at h3
  omega
/-- Tokens that are written: no name is long, and there are few attributes. -/
theorem attrsW_few : ∀ (l : List Pr) (seen : List (List UInt8)) (b : List UInt8) (n : Nat), attrsW seen l = .ok b n → l.length ≤ b.length ∧ ∀ p ∈ l, p.name.length ≤ b.length
  | [], _, _, _, _ => by simp
  | q :: r, seen, b, n, h => by
    unfold attrsW at h
    split at h
    · cases h
    split at h
    · cases h
    split at h
    · cases h
    cases ha : attrsW (q.name :: seen) r with
    | bad i e => rw [ha] at h; cases h
    | ok s m =>
      rw [ha] at h
      injection h with h _
      obtain ⟨h1, h2⟩ := attrsW_few r _ _ _ ha
      rw [← h]
      refine ⟨by simp; omega, fun p hp => ?_⟩
      rcases List.mem_cons.1 hp with rfl | hp
      · simp; omega
      · have := h2 p hp; simp; omega
theorem tokW_few {a : Int} {t : Tok} {b : List UInt8} {n : Nat} (h : tokW a t = .ok b n) : t.attrs.length ≤ b.length ∧ ∀ p ∈ t.attrs, p.name.length ≤ b.length := by
  unfold tokW at h
  split at h
  · cases h
  split at h
  · split at h
    · cases h
    rename_i h4
    have ha : t.attrs = [] := by
      by_cases c : t.attrs = []
      · exact c
      · exact absurd (.inr (.inl c)) h4
    rw [ha]; simp
  split at h
  · cases h
  split at h
  · split at h
    · cases h
    rename_i h4
    have ha : t.attrs = [] := by
      by_cases c : t.attrs = []
      · exact c
      · exact absurd c h4
    rw [ha]; simp
  · cases ha : attrsW [] t.attrs with
    | bad i e => rw [ha] at h; cases h
    | ok s m =>
      rw [ha] at h
      injection h with h _
      obtain ⟨h1, h2⟩ := attrsW_few _ _ _ _ ha
      rw [← h]
      exact ⟨by simp; omega, fun p hp => by have := h2 p hp; simp; omega⟩
theorem wr_few : ∀ (l : List Tok) (a : Int) (b : List UInt8) (n : Nat), wr a l = .ok b n → ∀ t ∈ l, t.attrs.length ≤ b.length ∧ ∀ p ∈ t.attrs, p.name.length ≤ b.length
  | [], _, _, _, _ => by simp
  | t :: r, a, b, n, h => by
    unfold wr at h
    cases ht : tokW a t with
    | bad i e => rw [ht] at h; cases h
    | ok s m =>
      rw [ht] at h
      dsimp only at h
      cases hr : wr t.kind r with
      | bad i e => rw [hr] at h; cases h
      | ok c k =>
        rw [hr] at h
        injection h with h _
        intro x hx
        rw [← h, List.length_append]
        rcases List.mem_cons.1 hx with rfl | hx
        · obtain ⟨h1, h2⟩ := tokW_few ht
          exact ⟨by omega, fun p hp => by have := h2 p hp; omega⟩
        · obtain ⟨h1, h2⟩ := wr_few r _ _ _ hr x hx
          exact ⟨by omega, fun p hp => by have := h2 p hp; omega⟩
set_option maxHeartbeats 8000000 in
theorem XmltreeBuilds_walk (v : Value) (l : List Tok) (x : Int) (W : World) (hT : Toks W v l) (hm : toksMass l ≤ 1048576) (hw : FitM W) :
    Calls Tryz.prog 3 #[v, .int .i64 x] W fun e w' => e = .returned (.bool true) ∧ Below W.heap.size W w' := by
  have AL := hid (fun (X : World) (hX : Below W.heap.size W X) => alive_any X (hw.below hX))
  obtain ⟨vo, vn, vc, rfl⟩ : ∃ o n c, v = .slice o n c := by obtain ⟨r, _, ⟨⟨a, c, h, _⟩, _⟩, _⟩ := hT; exact ⟨_, _, _, h⟩
  have HT := hid hT
  have tlen := fun X => hT.len (P := Tryz.prog) 22 3 45 undT X
  have hlm := toks_len l
  have HM := hid hm
  clear hw hT
  by_cases h2 : 200 < l.length
  · have d2 : decide ((200 : Int) < (l.length : Int)) = true := by rw [decide_eq_true_iff]; omega
    have d3 : decide (200 < l.length) = true := decide_eq_true h2
    clear h2 hm hlm
    go_enter Tryz.func3, Tryz.ntmps3
    go_wp2_with fail
    refine (AL.out _ (b0 W)).mono ?_
    rintro e w1 ⟨rfl, hb1⟩
    go_wp2
    go_ret
    exact ⟨rfl, hb1⟩
  have d2 : decide ((200 : Int) < (l.length : Int)) = false := by rw [decide_eq_false_iff_not]; omega
  have d3 : decide (200 < l.length) = false := decide_eq_false h2
  by_cases hx : x < 0
  · have dx : decide (x < 0) = true := decide_eq_true hx
    clear h2 hm hlm
    go_enter Tryz.func3, Tryz.ntmps3
    go_wp2_with fail
    refine (AL.out _ (b0 W)).mono ?_
    rintro e w1 ⟨rfl, hb1⟩
    go_wp2
    go_ret
    exact ⟨rfl, hb1⟩
  have dx : decide (x < 0) = false := decide_eq_false hx
  have hcost := costT_mass l
  have RW := RWrite_any HT.out (by omega) (fitR_mass hm) (by omega)
  cases hwr : wr (-1) l with
  | bad i k =>
    have hk := wr_err l (-1) i k hwr
    rw [hwr] at RW
    have HRW := hid RW
    have qk : ((k : Int) != 0) = true := by rw [bne_iff_ne]; omega
    clear RW hwr hcost hm hlm h2 hx hk
    go_enter Tryz.func3, Tryz.ntmps3
    go_wp2_with fail
    refine HRW.out.mono ?_
    rintro e w1 ⟨⟨bv, rfl, hbv⟩, hb1⟩
    have HB1 := hid hb1
    clear hb1 hbv
    simp only [outW]
    go_wp2_with fail
    refine (AL.out _ HB1.out).mono ?_
    rintro e w2 ⟨rfl, hb2⟩
    go_wp2
    go_ret
    exact ⟨rfl, bt HB1.out hb2⟩
  | ok b n =>
    rw [hwr] at RW
    have hnames := wr_names l (-1) b n hwr
    have hfew := wr_few l (-1) b n hwr
    by_cases hb3 : 3000 < b.length
    · have HRW := hid RW
      have d4 : decide ((3000 : Int) < (b.length : Int)) = true := by rw [decide_eq_true_iff]; omega
      have d5 : decide (3000 < b.length) = true := decide_eq_true hb3
      clear RW hwr hcost hm hlm h2 hx hnames hfew hb3
      go_enter Tryz.func3, Tryz.ntmps3
      go_wp2_with fail
      refine HRW.out.mono ?_
      rintro e w1 ⟨⟨bv, rfl, hbv⟩, hb1⟩
      have HB1 := hid hb1
      simp only [outW] at hbv
      have blen := fun X => hbv.len (P := Tryz.prog) 24 3 5 underB X
      clear hb1 hbv
      simp only [outW]
      go_wp2_with fail
      refine (AL.out _ HB1.out).mono ?_
      rintro e w2 ⟨rfl, hb2⟩
      go_wp2
      go_ret
      exact ⟨rfl, bt HB1.out hb2⟩
    · have d4 : decide ((3000 : Int) < (b.length : Int)) = false := by rw [decide_eq_false_iff_not]; omega
      have d5 : decide (3000 < b.length) = false := decide_eq_false hb3
      have hfitB : FitT l := fun t ht => by
        have h1 := mass_mem ht
        obtain ⟨h3, h4⟩ := hfew t ht
        unfold tokMass at h1
        refine ⟨by omega, fun p hp => ⟨by have := h4 p hp; omega, ?_⟩, by omega⟩
        have h5 := mass_pr hp
        unfold prMass at h5
        omega
      have HEN := hid (fun (X : World) (hX : Below W.heap.size W X) => (⟨HT.out.below hX (Nat.le_refl _), fun t ht => by
        have h1 := mass_mem ht
        obtain ⟨h3, h4⟩ := hfitB t ht
        unfold tokMass at h1
        exact ⟨h3, h4.1, by omega⟩, hnames.2, hnames.1, by omega⟩ : Env l (.slice vo vn vc) X))
      have BC := hid (fun (X : World) (hX : Below W.heap.size W X) => Build_any l (.slice vo vn vc) X (HT.out.below hX (Nat.le_refl _)) hfitB (by omega) x)
      have BR := hid (fun (X : World) (hX : Below W.heap.size W X) => RBuild_any (HEN.out X hX) hm x)
      have HRW := hid RW
      generalize build l x = O at *
      obtain ⟨nd, pl, er⟩ := O
      have qp : (pl == pl) = true := beq_self_eq_true _
      have qe : ((er : Int) == (er : Int)) = true := beq_self_eq_true _
      clear RW hwr hcost hm hlm h2 hx hnames hfew hb3 hfitB HEN
      go_enter Tryz.func3, Tryz.ntmps3
      go_wp2_with fail
      refine HRW.out.mono ?_
      rintro e w1 ⟨⟨bv, rfl, hbv⟩, hb1⟩
      have HB1 := hid hb1
      simp only [outW] at hbv
      have blen := fun X => hbv.len (P := Tryz.prog) 24 3 5 underB X
      clear hb1 hbv
      simp only [outW]
      go_wp2_with fail
      refine (BC.out _ HB1.out).mono ?_
      rintro e w2 ⟨⟨ao, an, ac, ko, kn, kc, rfl, hN2⟩, hb2⟩
      dsimp only
      unfold nodeV
      have B2 := bt HB1.out hb2
      have B3 := ba (b0 w2) (.cells #[.int .i64 nd.place, .string (text nd.nm.1), .string (text nd.nm.2), .slice ao an ac, .slice ko kn kc, .string (text nd.text)] 32)
      have P3 := hid (heap_alloc_new w2 (.cells #[.int .i64 nd.place, .string (text nd.nm.1), .string (text nd.nm.2), .slice ao an ac, .slice ko kn kc, .string (text nd.text)] 32))
      have HB3 := hid (B2.trans (B3.mono B2.size))
      have HN3 := hid (hN2.to (A' := fun _ => False) (fun _ _ f => f.elim) (Keep.of_below B3))
      clear hN2 hb2 B2 B3 blen
      go_wp2_with fail
      refine (BR.out _ HB3.out).mono ?_
      rintro e w4 ⟨⟨bo, bn, bc, lo, ln, lc, rfl, hN4⟩, hb4⟩
      dsimp only
      unfold nodeV
      have B5 := ba (b0 w4) (.cells #[.int .i64 nd.place, .string (text nd.nm.1), .string (text nd.nm.2), .slice bo bn bc, .slice lo ln lc, .string (text nd.text)] 32)
      have P5 := hid (heap_alloc_new w4 (.cells #[.int .i64 nd.place, .string (text nd.nm.1), .string (text nd.nm.2), .slice bo bn bc, .slice lo ln lc, .string (text nd.text)] 32))
      have B4 := bt HB3.out hb4
      have B45 := bt hb4 B5
      have HB5 := hid (bt B4 B5)
      have Q3 := hid ((B45.block _ (lt_of_some P3.out)).trans P3.out)
      have HM3 := hid (HN3.out.to (A' := fun _ => False) (fun _ _ f => f) (Keep.of_below B45))
      have HN5 := hid (hN4.to (A' := fun _ => False) (fun _ _ f => f.elim) (Keep.of_below B5))
      clear hN4 hb4 B5 B4 B45
      go_wp2_with fail
      refine (AL.out _ HB5.out).mono ?_
      rintro e w6 ⟨rfl, hb6⟩
      have HB6 := hid (bt HB5.out hb6)
      have q3 := (hb6.block _ (lt_of_some Q3.out)).trans Q3.out
      have q5 := (hb6.block _ (lt_of_some P5.out)).trans P5.out
      have SM := hid (RSame_self nd.size nd ao an ac ko kn kc bo bn bc lo ln lc w6 (Nat.le_refl _) (HM3.out.to (fun _ _ f => f) (Keep.of_below hb6)) (HN5.out.to (fun _ _ f => f) (Keep.of_below hb6)))
      unfold nodeV at SM
      have c0 := Lib.cell_of_heap q3 0
      have c1 := Lib.cell_of_heap q3 1
      have c2 := Lib.cell_of_heap q3 2
      have c3 := Lib.cell_of_heap q3 3
      have c4 := Lib.cell_of_heap q3 4
      have c5 := Lib.cell_of_heap q3 5
      have f0 := Lib.cell_of_heap q5 0
      have f1 := Lib.cell_of_heap q5 1
      have f2 := Lib.cell_of_heap q5 2
      have f3 := Lib.cell_of_heap q5 3
      have f4 := Lib.cell_of_heap q5 4
      have f5 := Lib.cell_of_heap q5 5
      simp only [List.getElem?_toArray, List.getElem?_cons_succ, List.getElem?_cons_zero] at c0 c1 c2 c3 c4 c5 f0 f1 f2 f3 f4 f5
      clear hb6 q3 q5
      go_wp2_with fail
      refine SM.out.mono ?_
      rintro e w7 ⟨rfl, hb7⟩
      go_wp2
      go_ret
      exact ⟨rfl, bt HB6.out hb7⟩
end Go.Proofs.YthodmdfbahkflaaGreatDoor.Tree
