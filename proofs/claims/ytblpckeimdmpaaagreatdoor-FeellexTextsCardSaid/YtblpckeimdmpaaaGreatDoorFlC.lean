/- Layer 8: contract of the document's sign. (gen_flB.py C) -/
import Derived.Test.YtblpckeimdmpaaaGreatDoorFlB
set_option linter.unusedVariables false
set_option linter.unusedSimpArgs false
namespace Go.Proofs.YtblpckeimdmpaaaGreatDoor.Fl
open Go Go.Proofs.YtblpckeimdmpaaaGreatDoor Go.Proofs.YtblpckeimdmpaaaGreatDoor.Utf Go.Proofs.YtblpckeimdmpaaaGreatDoor.Names Go.RowKit
set_option maxRecDepth 100000

theorem sign_drop {l : List UInt8} {i : Nat} {a b : UInt8} (ha : l[i]? = some a) (hb : l[i + 1]? = some b) : signN (l.drop i) = if pairs.contains (a, b) = true then 2 else if singles.contains a = true then 1 else 0 := by
  obtain ⟨h1, rfl⟩ := List.getElem?_eq_some_iff.1 ha
  obtain ⟨h2, rfl⟩ := List.getElem?_eq_some_iff.1 hb
  rw [List.drop_eq_getElem_cons h1, List.drop_eq_getElem_cons h2, sign_2]
theorem sign_last1 {l : List UInt8} {i : Nat} {a : UInt8} (ha : l[i]? = some a) (h2 : l.length ≤ i + 1) : signN (l.drop i) = if singles.contains a = true then 1 else 0 := by
  obtain ⟨h1, rfl⟩ := List.getElem?_eq_some_iff.1 ha
  rw [List.drop_eq_getElem_cons h1, List.drop_eq_nil_of_le h2, sign_1]
theorem two_at {l : List UInt8} {i : Nat} {a b : UInt8} (ha : l[i]? = some a) (hb : l[i + 1]? = some b) : (text l).extract i (i + 2) = text [a, b] := by
  obtain ⟨h1, rfl⟩ := List.getElem?_eq_some_iff.1 ha
  obtain ⟨h2, rfl⟩ := List.getElem?_eq_some_iff.1 hb
  rw [text_cut, List.drop_eq_getElem_cons h1, List.drop_eq_getElem_cons h2, show i + 2 - i = 2 by omega]; rfl

set_option maxHeartbeats 1000000 in
/-- The second half of sign: no sign of two bytes stands there. -/
theorem sign_any (l : List UInt8) (i : Nat) (hl : l.length ≤ 1000000000) (hi : i < l.length) (w : World) :
    Calls Tryz.prog 25 #[.string (text l), .int .i64 i] w fun e w' => e = .returned (.int .i64 (signN (l.drop i))) ∧ w = w' := by
  have s1 := text_size l
  have hx : i < (text l).size := by omega
  obtain ⟨a, ha⟩ : ∃ a, l[i]? = some a := ⟨l[i], List.getElem?_eq_getElem hi⟩
  have hn : ((text l)[i]'hx) = a := (List.getElem?_eq_some_iff.1 ha).2
  have one : ∀ (r : Nat), (singles.contains a = true → r = 1) → (singles.contains a = false → r = 0) →
      (∃ c ∈ singles, a = c ∧ r = 1) ∨ ((∀ c ∈ singles, a ≠ c) ∧ r = 0) := by
    intro r h1 h2
    cases hc : singles.contains a with
    | true => exact .inl ⟨a, List.contains_iff_mem.1 hc, rfl, h1 hc⟩
    | false =>
      refine .inr ⟨fun c hm e => ?_, h2 hc⟩
      rw [e, List.contains_iff_mem.2 hm] at hc; cases hc
  have none1 : (∀ c ∈ singles, a ≠ c) → ¬ (((text l)[i]'hx).toNat : Int) = 43 ∧ ¬ (((text l)[i]'hx).toNat : Int) = 45 ∧ ¬ (((text l)[i]'hx).toNat : Int) = 42 ∧ ¬ (((text l)[i]'hx).toNat : Int) = 47 ∧ ¬ (((text l)[i]'hx).toNat : Int) = 60 ∧ ¬ (((text l)[i]'hx).toNat : Int) = 62 ∧ ¬ (((text l)[i]'hx).toNat : Int) = 61 ∧ ¬ (((text l)[i]'hx).toNat : Int) = 40 ∧ ¬ (((text l)[i]'hx).toNat : Int) = 41 ∧ ¬ (((text l)[i]'hx).toNat : Int) = 91 ∧ ¬ (((text l)[i]'hx).toNat : Int) = 93 ∧ ¬ (((text l)[i]'hx).toNat : Int) = 123 ∧ ¬ (((text l)[i]'hx).toNat : Int) = 125 ∧ ¬ (((text l)[i]'hx).toNat : Int) = 44 ∧ ¬ (((text l)[i]'hx).toNat : Int) = 58 ∧ ¬ (((text l)[i]'hx).toNat : Int) = 46 := by
    intro h
    have st : ∀ c : UInt8, c ∈ singles → ¬ (((text l)[i]'hx).toNat : Int) = (c.toNat : Int) := by
      intro c hc e
      rw [hn] at e
      exact h c hc (UInt8.toNat_inj.1 (by omega))
    exact ⟨st 43 (by decide), st 45 (by decide), st 42 (by decide), st 47 (by decide), st 60 (by decide), st 62 (by decide), st 61 (by decide), st 40 (by decide), st 41 (by decide), st 91 (by decide), st 93 (by decide), st 123 (by decide), st 125 (by decide), st 44 (by decide), st 58 (by decide), st 46 (by decide)⟩
  rcases Nat.lt_or_ge (i + 1) l.length with h2 | h2
  · obtain ⟨b, hb⟩ : ∃ b, l[i + 1]? = some b := ⟨l[i + 1], List.getElem?_eq_getElem h2⟩
    have ex := two_at ha hb
    have b1 : (i : Int) + 2 ≤ (l.length : Int) := by omega
    have b2 : i + 2 ≤ l.length := by omega
    rw [sign_drop ha hb]
    clear ha hb
    by_cases hp : pairs.contains (a, b) = true
    · rw [if_pos hp]
      have hm := List.contains_iff_mem.1 hp
      have hcase : [a, b] = [42, 42] ∨ [a, b] = [60, 61] ∨ [a, b] = [62, 61] ∨ [a, b] = [33, 61] ∨ [a, b] = [46, 46] := by
        have h5 : ∀ p ∈ pairs, [p.1, p.2] = [42, 42] ∨ [p.1, p.2] = [60, 61] ∨ [p.1, p.2] = [62, 61] ∨ [p.1, p.2] = [33, 61] ∨ [p.1, p.2] = [46, 46] := by decide
        exact h5 _ hm
      clear one none1 hm hp hn
      rcases hcase with hc | hc | hc | hc | hc

      · rw [hc] at ex
        clear hc
        have t42 : ((text [42, 42]).toList == [42, 42]) = true := list_yes rfl
        go_enter Tryz.func25, Tryz.ntmps25
        go_wp2
        all_goals go_ret
        all_goals exact ⟨rfl, rfl⟩
      · rw [hc] at ex
        clear hc
        have t42 : ((text [60, 61]).toList == [42, 42]) = false := list_no (by decide)
        have t60 : ((text [60, 61]).toList == [60, 61]) = true := list_yes rfl
        go_enter Tryz.func25, Tryz.ntmps25
        go_wp2
        all_goals go_ret
        all_goals exact ⟨rfl, rfl⟩
      · rw [hc] at ex
        clear hc
        have t42 : ((text [62, 61]).toList == [42, 42]) = false := list_no (by decide)
        have t60 : ((text [62, 61]).toList == [60, 61]) = false := list_no (by decide)
        have t62 : ((text [62, 61]).toList == [62, 61]) = true := list_yes rfl
        go_enter Tryz.func25, Tryz.ntmps25
        go_wp2
        all_goals go_ret
        all_goals exact ⟨rfl, rfl⟩
      · rw [hc] at ex
        clear hc
        have t42 : ((text [33, 61]).toList == [42, 42]) = false := list_no (by decide)
        have t60 : ((text [33, 61]).toList == [60, 61]) = false := list_no (by decide)
        have t62 : ((text [33, 61]).toList == [62, 61]) = false := list_no (by decide)
        have t33 : ((text [33, 61]).toList == [33, 61]) = true := list_yes rfl
        go_enter Tryz.func25, Tryz.ntmps25
        go_wp2
        all_goals go_ret
        all_goals exact ⟨rfl, rfl⟩
      · rw [hc] at ex
        clear hc
        have t42 : ((text [46, 46]).toList == [42, 42]) = false := list_no (by decide)
        have t60 : ((text [46, 46]).toList == [60, 61]) = false := list_no (by decide)
        have t62 : ((text [46, 46]).toList == [62, 61]) = false := list_no (by decide)
        have t33 : ((text [46, 46]).toList == [33, 61]) = false := list_no (by decide)
        have t46 : ((text [46, 46]).toList == [46, 46]) = true := list_yes rfl
        go_enter Tryz.func25, Tryz.ntmps25
        go_wp2
        all_goals go_ret
        all_goals exact ⟨rfl, rfl⟩
    · have hcs := one (if singles.contains a = true then 1 else 0) (fun h => by rw [if_pos h]) (fun h => by rw [h]; rfl)
      rw [if_neg hp]
      have p42 : ((text [a, b]).toList == [42, 42]) = false := list_no (fun e => hp (by rw [List.cons.injEq, List.cons.injEq] at e; rw [e.1, e.2.1]; decide))
      have p60 : ((text [a, b]).toList == [60, 61]) = false := list_no (fun e => hp (by rw [List.cons.injEq, List.cons.injEq] at e; rw [e.1, e.2.1]; decide))
      have p62 : ((text [a, b]).toList == [62, 61]) = false := list_no (fun e => hp (by rw [List.cons.injEq, List.cons.injEq] at e; rw [e.1, e.2.1]; decide))
      have p33 : ((text [a, b]).toList == [33, 61]) = false := list_no (fun e => hp (by rw [List.cons.injEq, List.cons.injEq] at e; rw [e.1, e.2.1]; decide))
      have p46 : ((text [a, b]).toList == [46, 46]) = false := list_no (fun e => hp (by rw [List.cons.injEq, List.cons.injEq] at e; rw [e.1, e.2.1]; decide))
      generalize hr : (if singles.contains a = true then 1 else 0) = r at *
      clear hr one hp
      rcases hcs with ⟨c, hm, hc, rfl⟩ | ⟨hno, rfl⟩
      · have hcn : (((text l)[i]'hx).toNat : Int) = (c.toNat : Int) := by rw [hn, hc]
        clear none1 hn hc
        have hall : c = 43 ∨ c = 45 ∨ c = 42 ∨ c = 47 ∨ c = 60 ∨ c = 62 ∨ c = 61 ∨ c = 40 ∨ c = 41 ∨ c = 91 ∨ c = 93 ∨ c = 123 ∨ c = 125 ∨ c = 44 ∨ c = 58 ∨ c = 46 := by
          have : ∀ c ∈ singles, c = 43 ∨ c = 45 ∨ c = 42 ∨ c = 47 ∨ c = 60 ∨ c = 62 ∨ c = 61 ∨ c = 40 ∨ c = 41 ∨ c = 91 ∨ c = 93 ∨ c = 123 ∨ c = 125 ∨ c = 44 ∨ c = 58 ∨ c = 46 := by decide
          exact this c hm
        clear hm
        rcases hall with rfl | rfl | rfl | rfl | rfl | rfl | rfl | rfl | rfl | rfl | rfl | rfl | rfl | rfl | rfl | rfl
        all_goals
          have hcn2 := hcn
          simp only [UInt8.reduceToNat] at hcn2
          clear hcn
          go_enter Tryz.func25, Tryz.ntmps25
          go_wp2
          all_goals go_ret
          all_goals exact ⟨rfl, rfl⟩
      · obtain ⟨n43, n45, n42, n47, n60, n62, n61, n40, n41, n91, n93, n123, n125, n44, n58, n46⟩ := none1 hno
        clear hno hn none1
        go_enter Tryz.func25, Tryz.ntmps25
        go_wp2
        all_goals go_ret
        all_goals exact ⟨rfl, rfl⟩
  · have b1 : ¬ (i : Int) + 2 ≤ (l.length : Int) := by omega
    have b2 : ¬ i + 2 ≤ l.length := by omega
    rw [sign_last1 ha h2]
    clear ha
    have hcs := one (if singles.contains a = true then 1 else 0) (fun h => by rw [if_pos h]) (fun h => by rw [h]; rfl)
    generalize hr : (if singles.contains a = true then 1 else 0) = r at *
    clear hr one
    rcases hcs with ⟨c, hm, hc, rfl⟩ | ⟨hno, rfl⟩
    · have hcn : (((text l)[i]'hx).toNat : Int) = (c.toNat : Int) := by rw [hn, hc]
      clear none1 hn hc
      have hall : c = 43 ∨ c = 45 ∨ c = 42 ∨ c = 47 ∨ c = 60 ∨ c = 62 ∨ c = 61 ∨ c = 40 ∨ c = 41 ∨ c = 91 ∨ c = 93 ∨ c = 123 ∨ c = 125 ∨ c = 44 ∨ c = 58 ∨ c = 46 := by
        have : ∀ c ∈ singles, c = 43 ∨ c = 45 ∨ c = 42 ∨ c = 47 ∨ c = 60 ∨ c = 62 ∨ c = 61 ∨ c = 40 ∨ c = 41 ∨ c = 91 ∨ c = 93 ∨ c = 123 ∨ c = 125 ∨ c = 44 ∨ c = 58 ∨ c = 46 := by decide
        exact this c hm
      clear hm
      rcases hall with rfl | rfl | rfl | rfl | rfl | rfl | rfl | rfl | rfl | rfl | rfl | rfl | rfl | rfl | rfl | rfl
      all_goals
        have hcn2 := hcn
        simp only [UInt8.reduceToNat] at hcn2
        clear hcn
        go_enter Tryz.func25, Tryz.ntmps25
        go_wp2
        all_goals go_ret
        all_goals exact ⟨rfl, rfl⟩
    · obtain ⟨n43, n45, n42, n47, n60, n62, n61, n40, n41, n91, n93, n123, n125, n44, n58, n46⟩ := none1 hno
      clear hno hn none1
      go_enter Tryz.func25, Tryz.ntmps25
      go_wp2
      all_goals go_ret
      all_goals exact ⟨rfl, rfl⟩
end Go.Proofs.YtblpckeimdmpaaaGreatDoor.Fl
