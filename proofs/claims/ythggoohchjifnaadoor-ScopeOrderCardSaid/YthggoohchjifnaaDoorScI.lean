/- Layer 9: the iterators: slices.Values, that of no scope, and both. -/
import Derived.Test.YthggoohchjifnaaDoorScF
import Derived.Test.YthggoohchjifnaaDoorRange4
import Derived.RangeFuncBox
import Derived.RangeFuncWrites
import Derived.Shelf.Abstract
import Derived.Shelf.AbstractIn
import Derived.Shelf.RegionOpen
import Derived.OwnWalkIn
import Derived.TacticsInMore
import Derived.LoopNIn
import Derived.LoopIn
set_option linter.unusedVariables false
set_option linter.unusedSimpArgs false
namespace Go.Proofs.YthggoohchjifnaaDoor.Sc
open Go Go.Proofs.YthggoohchjifnaaDoor Go.Proofs.YthggoohchjifnaaDoor.Utf Go.Proofs.YthggoohchjifnaaDoor.Names Go.RowKit Go.Shelf
set_option maxRecDepth 100000
attribute [local go_sem] Oper.semAt_some

def encT (x : List UInt8) : Value := .string (text x)
/-- Two rising rows, rising. -/
def mrg : List (List UInt8) → List (List UInt8) → List (List UInt8)
  | [], own => own
  | x :: xs, own => own.takeWhile (fun y => Op.bytesLess y x) ++ x :: mrg xs (own.dropWhile (fun y => Op.bytesLess y x))
theorem mrg_lt {x y : List UInt8} {xs r : List (List UInt8)} (h : Op.bytesLess y x = true) : mrg (x :: xs) (y :: r) = y :: mrg (x :: xs) r := by
  simp only [mrg, List.takeWhile_cons, List.dropWhile_cons, h, if_true, List.cons_append]
theorem mrg_ge {x y : List UInt8} {xs r : List (List UInt8)} (h : Op.bytesLess y x = false) : mrg (x :: xs) (y :: r) = x :: mrg xs (y :: r) := by
  simp only [mrg, List.takeWhile_cons, List.dropWhile_cons, h, Bool.false_eq_true, if_false, List.nil_append]
theorem mrg_none {x : List UInt8} {xs : List (List UInt8)} : mrg (x :: xs) [] = x :: mrg xs [] := by simp [mrg]
theorem mrg_perm : ∀ (xs own : List (List UInt8)), (mrg xs own).Perm (xs ++ own)
  | [], own => by simp [mrg]
  | x :: xs, own => by
    have h := mrg_perm xs (own.dropWhile (fun y => Op.bytesLess y x))
    have e := List.takeWhile_append_dropWhile (p := fun y => Op.bytesLess y x) (l := own)
    show (own.takeWhile _ ++ x :: mrg xs _).Perm (x :: (xs ++ own))
    refine List.perm_middle.trans (List.Perm.cons x ?_)
    refine (h.append_left _).trans ?_
    rw [← List.append_assoc]
    refine (List.perm_append_comm.append_right _).trans ?_
    rw [List.append_assoc, e]
theorem mrg_rise : ∀ {xs own : List (List UInt8)}, Rise xs → Rise own → (∀ a ∈ xs, a ∉ own) → Rise (mrg xs own)
  | [], own, _, h, _ => h
  | x :: xs, own, hx, ho, hd => by
    have hx' := List.pairwise_cons.1 hx
    have e := List.takeWhile_append_dropWhile (p := fun y => Op.bytesLess y x) (l := own)
    have hsub : ∀ z, z ∈ own.dropWhile (fun y => Op.bytesLess y x) → z ∈ own := fun z hz => by rw [← e]; exact List.mem_append_right _ hz
    have ho2 : Rise (own.dropWhile (fun y => Op.bytesLess y x)) := List.Pairwise.sublist (List.dropWhile_sublist _) ho
    have ih := mrg_rise hx'.2 ho2 (fun a ha h => hd a (List.mem_cons_of_mem _ ha) (hsub a h))
    have hgt : ∀ z ∈ own.dropWhile (fun y => Op.bytesLess y x), Op.bytesLess x z = true := fun z hz => by
      cases hdw : own.dropWhile (fun y => Op.bytesLess y x) with
      | nil => rw [hdw] at hz; cases hz
      | cons y r =>
        have hy : Op.bytesLess y x = false := by
          have := List.head?_dropWhile_not (p := fun y => Op.bytesLess y x) own
          rw [hdw] at this
          simpa using this
        have hxy : x ≠ y := fun h => hd x (by simp) (by rw [h]; exact hsub y (by rw [hdw]; simp))
        have h1 : Op.bytesLess x y = true := (less_total hxy).resolve_right (by rw [hy]; simp)
        rw [hdw] at hz
        rcases List.mem_cons.1 hz with rfl | hz
        · exact h1
        · rw [hdw] at ho2
          exact less_trans h1 ((List.pairwise_cons.1 ho2).1 z hz)
    refine List.pairwise_append.2 ⟨List.Pairwise.sublist (List.takeWhile_sublist _) ho, List.pairwise_cons.2 ⟨fun z hz => ?_, ih⟩, fun a ha b hb => ?_⟩
    · rcases List.mem_append.1 ((mrg_perm _ _).mem_iff.1 hz) with h | h
      · exact hx'.1 z h
      · exact hgt z h
    · have hax : Op.bytesLess a x = true := by
        have := List.all_takeWhile (p := fun y => Op.bytesLess y x) (l := own)
        exact List.all_eq_true.1 this a ha
      rcases List.mem_cons.1 hb with rfl | hb
      · exact hax
      · rcases List.mem_append.1 ((mrg_perm _ _).mem_iff.1 hb) with h | h
        · exact less_trans hax (hx'.1 b h)
        · exact less_trans hax (hgt b h)

theorem none_tells (D : Nat → Prop) (w : World) : TellsD Tryd.prog D 0 42 #[] encT [] w := by
  intro l J Jx W hW hDW hJ hJx hY h0
  refine callsIn_of_wp Tryd.func42 rfl trivial ?_ rfl
  simp only [Tryd.ntmps42, List.size_toArray, List.length_cons, List.length_nil, Nat.reduceAdd, Nat.reduceSub, Array.replicate_succ, Array.replicate_zero, List.push_toArray, List.append_toArray, List.nil_append, List.cons_append]
  gi_wp2
  go_end0
  exact ⟨⟨_, rfl⟩, by omega, .inl h0⟩

set_option maxHeartbeats 2000000 in
theorem values_tells (D : Nat → Prop) (b : Nat) (v : Value) (l : List (List UInt8)) (w : World) (hb : D b) (hc : w.cell? ⟨b, 0, none⟩ = some v) (hv : StrsD D w v l) : TellsD Tryd.prog D 0 66 #[.pointer (some ⟨b, 0, none⟩)] encT l w := by
  intro lp J Jx W hW hDW hJ hJx hY h0
  have hvW : StrsD D W v l := hv.same hW
  have hle := hvW.1.le
  have hlen := fun X => hvW.1.len (P := Tryd.prog) 22 3 9 Tryd.underlying22 X
  have hcW : W.cell? ⟨b, 0, none⟩ = some v := by rw [show W.cell? ⟨b, 0, none⟩ = w.cell? ⟨b, 0, none⟩ from Same.cell (D := D) hW hb]; exact hc
  have HV := hid hvW
  have HY := hid hY
  have HJ := hid hJ
  have H0 := hid h0
  clear hv hc hW hvW hY hJ hJx h0
  refine callsIn_of_wp Tryd.func66 rfl trivial ?_ rfl
  simp only [Tryd.ntmps66, List.size_toArray, List.length_cons, List.length_nil, Nat.reduceAdd, Nat.reduceSub, Array.replicate_succ, Array.replicate_zero, List.push_toArray, List.append_toArray, List.nil_append, List.cons_append]
  gi_wp2
  gi_loopg [7] l.length (fun kx s7 wr => ∃ i : Nat, s7 = .int .i64 i ∧ i ≤ l.length ∧ l.length - i ≤ kx ∧ Hid (J i wr ∧ Same D W wr ∧ W.heap.size ≤ wr.heap.size))
  case atStart => exact ⟨0, rfl, Nat.zero_le _, by omega, hid ⟨H0.out, Same.refl _ _, Nat.le_refl _⟩⟩
  case round =>
    obtain ⟨i, rfl, hi, hg, I⟩ := hrel
    by_cases hil : i < l.length
    · have hs := (HV.out.same I.out.2.1).1
      obtain ⟨b2, o2, hix, hcl⟩ := hs.at (P := Tryd.prog) i hil 22 9 Tryd.underlying22 Tryd.sizeOf9
      obtain ⟨fn, tmps, assign, body, hy, hR⟩ := yield_any (m' := 8) (HY.out i l[i] wr (List.getElem?_eq_getElem hil) (by have := I.out.2.2; omega) I.out.1)
      have HR := hid hR
      have e1 : encT l[i] = .string (text l[i]) := rfl
      rw [e1] at hy
      generalize text l[i] = ty at *
      clear hs hR
      gi_wp2
      refine HR.out.mono ?_
      rintro e W3 ⟨bb, rfl, hl3, hz3, hJ3⟩
      have K3 := hid (And.intro hl3 hJ3)
      have Z3 := hid (Nat.le_trans I.out.2.2 hz3)
      clear hl3 hJ3 hz3
      cases bb
      · gi_wp2
        refine bodyPost_ret (results_none rfl _ _ _) rfl ?_
        exact ⟨⟨_, rfl⟩, Z3.out, .inr ⟨i + 1, hil, by simpa using K3.out.2⟩⟩
      · gi_wp2
        go_roundg (l.length - (i + 1))
        case measure => omega
        case rel => exact ⟨i + 1, by go_num, by omega, Nat.le_refl _, hid ⟨by simpa using K3.out.2, I.out.2.1.trans fun x hx => K3.out.1 x (.inl hx), Z3.out⟩⟩
    · have e : i = l.length := by omega
      subst e
      have HE := I
      clear I
      gi_wp2
      go_end0
      exact ⟨⟨_, rfl⟩, HE.out.2.2, .inl HE.out.1⟩
end Go.Proofs.YthggoohchjifnaaDoor.Sc
