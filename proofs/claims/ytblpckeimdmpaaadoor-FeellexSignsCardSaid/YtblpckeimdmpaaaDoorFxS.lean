/- Layer 8: the walk of the statement FeellexSigns. -/
import Derived.Test.YtblpckeimdmpaaaDoorFxY
set_option linter.unusedVariables false
set_option linter.unusedSimpArgs false
namespace Go.Proofs.YtblpckeimdmpaaaDoor.Fx
open Go Go.Proofs.YtblpckeimdmpaaaDoor Go.Proofs.YtblpckeimdmpaaaDoor.Utf Go.Proofs.YtblpckeimdmpaaaDoor.Names Go.Proofs.YtblpckeimdmpaaaDoor.Ent Go.Proofs.YtblpckeimdmpaaaDoor.Fl Go.RowKit
set_option maxRecDepth 100000

theorem one_byte (i : Nat) (h : i < 16) : ((⟨#[43, 45, 42, 47, 60, 62, 61, 40, 41, 91, 93, 123, 125, 44, 58, 46]⟩ : ByteArray).extract i 16).extract 0 1 = text [singles.getD i 0] ∧ singles.getD i 0 ∈ singles := by
  rcases (by omega : i = 0 ∨ i = 1 ∨ i = 2 ∨ i = 3 ∨ i = 4 ∨ i = 5 ∨ i = 6 ∨ i = 7 ∨ i = 8 ∨ i = 9 ∨ i = 10 ∨ i = 11 ∨ i = 12 ∨ i = 13 ∨ i = 14 ∨ i = 15) with rfl | rfl | rfl | rfl | rfl | rfl | rfl | rfl | rfl | rfl | rfl | rfl | rfl | rfl | rfl | rfl
  all_goals exact ⟨by rfl, by decide⟩
theorem single_check {a b : UInt8} (ha : a ∈ singles) (hb : b ∈ singles) : check [a, b] = 2 := by
  have hall : ∀ c ∈ singles, c.toNat < 128 ∧ fine (c.toNat : Int) = true := by decide
  have := check_low [a, b] (fun c hc => by
    simp only [List.mem_cons, List.mem_nil_iff, or_false] at hc
    rcases hc with rfl | rfl
    · exact hall _ ha
    · exact hall _ hb)
  exact this
theorem tlist (l : List UInt8) : (text l).toList = l := Names.text_list l
theorem four_yes {a b : UInt8} (ha : a ∈ singles) (h : pairs.contains (a, b) = true) : (a = 42 ∧ b = 42) ∨ (a = 60 ∧ b = 61) ∨ (a = 62 ∧ b = 61) ∨ (a = 46 ∧ b = 46) := by
  have hm := List.contains_iff_mem.1 h
  simp only [pairs, List.mem_cons, List.mem_nil_iff, or_false, Prod.mk.injEq] at hm
  rcases hm with h | h | h | h | h
  · exact .inl h
  · exact .inr (.inl h)
  · exact .inr (.inr (.inl h))
  · exfalso
    rw [h.1] at ha
    revert ha; decide
  · exact .inr (.inr (.inr h))
theorem four_no {a b x y : UInt8} (h : pairs.contains (a, b) = false) (hm : (x, y) ∈ pairs) : ((text [a, b]).toList == [x, y]) = false := by
  rw [tlist, beq_eq_false_iff_ne]
  intro e
  injection e with e1 e2
  injection e2 with e2 _
  rw [e1, e2] at h
  rw [List.contains_iff_mem.2 hm] at h; cases h

set_option maxHeartbeats 4000000 in
theorem FeellexSigns_walk (x y : Int) (hx : 0 ≤ x ∧ x ≤ 255) (hy : 0 ≤ y ∧ y ≤ 255) (w : World) (hF : Fit w) :
    Calls Tryd.prog 5 #[.int .u8 x, .int .u8 y] w fun e w' => e = .returned (.bool true) ∧ Below w.heap.size w w' := by
  obtain ⟨hx0, hx1⟩ := hx
  obtain ⟨hy0, hy1⟩ := hy
  have HF := hid hF
  clear hF
  obtain ⟨h1, ha⟩ := one_byte (x % 16).toNat (by omega)
  obtain ⟨h2, hb⟩ := one_byte (y % 16).toNat (by omega)
  generalize singles.getD (x % 16).toNat 0 = a at *
  generalize singles.getD (y % 16).toNat 0 = b at *
  have happ : text [a] ++ text [b] = text [a, b] := by rw [Names.text_append]; rfl
  have hck := single_check ha hb
  have htw := two_signs ha hb
  have hs1 : (text [a, b]).extract 0 1 = text [a] := by rw [text_cut]; rfl
  have hs2 : (text [a, b]).extract 1 2 = text [b] := by rw [text_cut]; rfl
  have sz : (text [a, b]).size = 2 := by rw [text_size]; rfl
  have q1 : ((text [a]).toList == (text [a]).toList) = true := by rw [beq_iff_eq]
  have q2 : ((text [b]).toList == (text [b]).toList) = true := by rw [beq_iff_eq]
  have HA := hid ha
  have hlx := fun w (hF : Fit w) => Lex_any [a, b] (by simp) w hF.1 hF.2
  have HL := hid hlx
  have HC := hid hck
  have HH := hid (And.intro h1 (And.intro h2 happ))
  have HS := hid (And.intro hs1 (And.intro hs2 (And.intro sz (And.intro q1 q2))))
  clear hlx hck hb h1 h2 happ hs1 hs2 sz q1 q2
  cases hp : pairs.contains (a, b)
  · rw [hp] at htw
    have n1 := four_no (x := 42) (y := 42) hp (by decide)
    have n2 := four_no (x := 60) (y := 61) hp (by decide)
    have n3 := four_no (x := 62) (y := 61) hp (by decide)
    have n4 := four_no (x := 46) (y := 46) hp (by decide)
    have HT : Hid (lexp 0 [a, b] = .ok [⟨4, 0, [a]⟩, ⟨4, 1, [b]⟩, ⟨5, 2, []⟩]) := hid (htw.trans (by rw [if_neg (by simp)]))
    have HN := hid (And.intro n1 (And.intro n2 (And.intro n3 n4)))
    clear htw ha hp n1 n2 n3 n4
    go_enter Tryd.func5, Tryd.ntmps5
    go_wp2_with fail
    go_quiet (fail)
    have hb0 := below_drewN (b0 w) nq
    have HF1 := hid (HF.out.below hb0 (Nat.le_refl _))
    have HB0 := hid hb0
    clear hb0
    generalize w.drewN nq = w1 at *
    obtain ⟨h1, h2, happ⟩ := HH.out
    rw [h1, h2, happ]
    clear h1 h2 happ
    go_wp2_with fail
    refine (HL.out _ HF1.out).mono ?_
    rintro e w2 ⟨hg, hb2⟩
    obtain ⟨v, rfl, ho⟩ := hg.ok HC.out HT.out
    have HB2 := hid (HB0.out.trans (hb2.mono HB0.out.size))
    have HF2 := hid (HF1.out.below hb2 (Nat.le_refl _))
    have HO : Hid (Lexs w2 v [⟨4, 0, [a]⟩, ⟨4, 1, [b]⟩, ⟨5, 2, []⟩]) := hid (ho.lexs (by simp))
    have hlen0 : ∀ W, (Builtin.len_ #[26] 3 #[v]).run Tryd.prog W = .ok (.int .i64 3) W := fun W => HO.out.len (P := Tryd.prog) 26 3 30 undLs W
    clear hg ho hb2
    go_wp2_with fail
    refine (alive_any _ HF2.out).mono ?_
    rintro e w3 ⟨rfl, hb3⟩
    have HB3 := hid (HB2.out.trans (hb3.mono HB2.out.size))
    have HO3 := HO.out.below hb3 (Nat.le_refl _)
    obtain ⟨p0, o0, i0, k00, k01, k02⟩ := HO3.pick 0 0 rfl _ rfl
    obtain ⟨p1, o1, i1, k10, k11, k12⟩ := HO3.pick 1 1 rfl _ rfl
    obtain ⟨p2, o2, i2, k20, k21, k22⟩ := HO3.pick 2 2 rfl _ rfl
    obtain ⟨n1, n2, n3, n4⟩ := HN.out
    obtain ⟨hs1, hs2, sz, q1, q2⟩ := HS.out
    clear hb3 HO3
    go_wp2_with fail
    go_quiet (fail)
    go_wp2
    go_ret
    exact ⟨rfl, below_drewN HB3.out _⟩
  · rw [hp] at htw
    have HT : Hid (lexp 0 [a, b] = .ok [⟨4, 0, [a, b]⟩, ⟨5, 2, []⟩]) := hid (htw.trans (by rw [if_pos rfl]))
    have H4 := four_yes ha hp
    have n1 : ((text [a, b]).toList == [42, 42]) = (([a, b] : List UInt8) == [42, 42]) := by rw [tlist]
    have n2 : ((text [a, b]).toList == [60, 61]) = (([a, b] : List UInt8) == [60, 61]) := by rw [tlist]
    have n3 : ((text [a, b]).toList == [62, 61]) = (([a, b] : List UInt8) == [62, 61]) := by rw [tlist]
    have n4 : ((text [a, b]).toList == [46, 46]) = (([a, b] : List UInt8) == [46, 46]) := by rw [tlist]
    have qq : ((text [a, b]).toList == (text [a, b]).toList) = true := by rw [beq_iff_eq]
    have HN := hid (And.intro n1 (And.intro n2 (And.intro n3 (And.intro n4 qq))))
    clear htw ha hp n1 n2 n3 n4 qq
    rcases H4 with ⟨rfl, rfl⟩ | ⟨rfl, rfl⟩ | ⟨rfl, rfl⟩ | ⟨rfl, rfl⟩
    all_goals
      go_enter Tryd.func5, Tryd.ntmps5
      go_wp2_with fail
      go_quiet (fail)
      have hb0 := below_drewN (b0 w) nq
      have HF1 := hid (HF.out.below hb0 (Nat.le_refl _))
      have HB0 := hid hb0
      clear hb0
      generalize w.drewN nq = w1 at *
      obtain ⟨h1, h2, happ⟩ := HH.out
      rw [h1, h2, happ]
      clear h1 h2 happ
      go_wp2_with fail
      refine (HL.out _ HF1.out).mono ?_
      rintro e w2 ⟨hg, hb2⟩
      obtain ⟨v, rfl, ho⟩ := hg.ok HC.out HT.out
      have HB2 := hid (HB0.out.trans (hb2.mono HB0.out.size))
      have HF2 := hid (HF1.out.below hb2 (Nat.le_refl _))
      have HO := hid (ho.lexs (by simp))
      have hlen0 : ∀ W, (Builtin.len_ #[26] 3 #[v]).run Tryd.prog W = .ok (.int .i64 2) W := fun W => HO.out.len (P := Tryd.prog) 26 3 30 undLs W
      clear hg ho hb2
      go_wp2_with fail
      refine (alive_any _ HF2.out).mono ?_
      rintro e w3 ⟨rfl, hb3⟩
      have HB3 := hid (HB2.out.trans (hb3.mono HB2.out.size))
      have HO3 := HO.out.below hb3 (Nat.le_refl _)
      obtain ⟨p0, o0, i0, k00, k01, k02⟩ := HO3.pick 0 0 rfl _ rfl
      dsimp only [lz] at k00 k01 k02
      obtain ⟨n1, n2, n3, n4, qq⟩ := HN.out
      first
        | (have m1 : ((text _).toList == _) = true := n1.trans rfl)
        | (have m1 : ((text _).toList == _) = false := n1.trans rfl)
      first
        | (have m2 : ((text _).toList == _) = true := n2.trans rfl)
        | (have m2 : ((text _).toList == _) = false := n2.trans rfl)
      first
        | (have m3 : ((text _).toList == _) = true := n3.trans rfl)
        | (have m3 : ((text _).toList == _) = false := n3.trans rfl)
      first
        | (have m4 : ((text _).toList == _) = true := n4.trans rfl)
        | (have m4 : ((text _).toList == _) = false := n4.trans rfl)
      clear hb3 HO3 n1 n2 n3 n4
      go_wp2
      go_ret
      exact ⟨rfl, HB3.out⟩
end Go.Proofs.YtblpckeimdmpaaaDoor.Fx
