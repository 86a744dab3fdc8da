/- Layer 3: contract of the document's own answer on references: reference. -/
import Derived.Test.YtabplemabcahgaaDoorEntC
import Derived.Deep.RegionWith
set_option linter.unusedVariables false
set_option linter.unusedSimpArgs false
namespace Go.Proofs.YtabplemabcahgaaDoor.Ent
open Go Go.Proofs.YtabplemabcahgaaDoor Go.Proofs.YtabplemabcahgaaDoor.Utf Go.RowKit
set_option maxRecDepth 100000

/-- A reference that is a name, whole; and its character. -/
def nm (k : Nat) : List UInt8 := 38 :: ((nameds.getD k ([], 0)).1 ++ [59])
def ch (k : Nat) : Nat := (nameds.getD k ([], 0)).2
/-- The first k names aren't there. -/
def referFrom (k : Nat) (l : List UInt8) : Nat × Nat :=
  match (nameds.drop k).find? (fun p => pre (38 :: (p.1 ++ [59])) l) with
  | some p => (p.2, p.1.length + 2)
  | none => if pre [38, 35, 120] l = true then up 3 (numb 16 6 (l.drop 3)) else if pre [38, 35] l = true then up 2 (numb 10 7 (l.drop 2)) else (0, 0)
theorem from_zero (l : List UInt8) : refer l = referFrom 0 l := rfl
theorem drop_named (k : Nat) (hk : k < 5) : nameds.drop k = nameds.getD k ([], 0) :: nameds.drop (k + 1) := by
  rcases (by omega : k = 0 ∨ k = 1 ∨ k = 2 ∨ k = 3 ∨ k = 4) with rfl | rfl | rfl | rfl | rfl <;> rfl
theorem from_hit {k : Nat} {l : List UInt8} (hk : k < 5) (h : pre (nm k) l = true) : referFrom k l = (ch k, (nm k).length) := by
  unfold referFrom
  rw [drop_named k hk, List.find?_cons]
  unfold nm at h ⊢
  rw [h]
  simp [ch]
theorem from_miss {k : Nat} {l : List UInt8} (hk : k < 5) (h : pre (nm k) l = false) : referFrom k l = referFrom (k + 1) l := by
  unfold referFrom
  rw [drop_named k hk, List.find?_cons]
  unfold nm at h
  rw [h]
theorem from_end (l : List UInt8) : referFrom 5 l = if pre [38, 35, 120] l = true then up 3 (numb 16 6 (l.drop 3)) else if pre [38, 35] l = true then up 2 (numb 10 7 (l.drop 2)) else (0, 0) := rfl

theorem begins_lit (l p : List UInt8) (hl : l.length ≤ 1000000000) (hp : p.length ≤ 1000000000) (b : Bool) (h : pre p l = b) (a : Array UInt8) (ha : a.toList = p) (w : World) :
    Calls Tryd.prog 25 #[.string (text l), .string ⟨a⟩] w fun e w' => e = .returned (.bool b) ∧ w = w' := by
  have := rbegins_any l p hl hp w
  rw [h] at this
  have e : (⟨a⟩ : ByteArray) = text p := by rw [← ha]; simp [text]
  rw [e]; exact this
theorem nm_len (k : Nat) (hk : k < 5) : (nm k).length ≤ 1000000000 := by
  rcases (by omega : k = 0 ∨ k = 1 ∨ k = 2 ∨ k = 3 ∨ k = 4) with rfl | rfl | rfl | rfl | rfl <;> decide

set_option maxHeartbeats 2000000 in
theorem reference_any (l : List UInt8) (hl : l.length ≤ 1000000000) (w : World) :
    Calls Tryd.prog 24 #[.string (text l)] w fun e w' => e = .returned (pairV (refer l)) ∧ Below w.heap.size w w' := by
  have s1 : (text l).size = l.length := text_size l
  have mixed : Tryd.prog.follows Departure.mixedOrders = true := by kernel_rfl
  go_enter Tryd.func24, Tryd.ntmps24
  go_wp2_with fail
  go_loop [6] (fun i => ∃ k : Nat, k ≤ 5 ∧ i = .int .i64 k ∧ refer l = referFrom k l) (fun i => 5 - (intOf i).toNat)
  case atStart => exact ⟨0, by omega, rfl, from_zero l⟩
  case round =>
    obtain ⟨k, hk, rfl, hR⟩ := hrel
    by_cases hlt : k < 5
    · by_cases hp : pre (nm k) l = true
      · have hr := hR.trans (from_hit hlt hp)
        have HR := hid hr
        have hbg := fun a ha w => begins_lit l (nm k) hl (nm_len k hlt) true hp a ha w
        have HH := hid hbg
        clear hR hr hp hbg
        rcases (by omega : k = 0 ∨ k = 1 ∨ k = 2 ∨ k = 3 ∨ k = 4) with rfl | rfl | rfl | rfl | rfl
        all_goals
          go_wp2_with fail
          refine (HH.out _ (by decide) _).mono ?_
          rintro e w1 ⟨rfl, rfl⟩
          go_wp2_with fail
          go_region_o
          all_goals
            go_wp2
            go_ret2
            exact ⟨by rw [HR.out]; rfl, by first | exact ((b0 _).alloc (Nat.le_refl _) _ |>.alloc (by simp) _).drew | exact (((b0 _).alloc (Nat.le_refl _) _).alloc (by simp) _)⟩
      · have hp' : pre (nm k) l = false := by simpa using hp
        have hr := hR.trans (from_miss hlt hp')
        have HR := hid hr
        have hbg := fun a ha w => begins_lit l (nm k) hl (nm_len k hlt) false hp' a ha w
        have HH := hid hbg
        clear hR hr hp hp' hbg
        rcases (by omega : k = 0 ∨ k = 1 ∨ k = 2 ∨ k = 3 ∨ k = 4) with rfl | rfl | rfl | rfl | rfl
        all_goals
          go_wp2_with fail
          refine (HH.out _ (by decide) _).mono ?_
          rintro e w1 ⟨rfl, rfl⟩
          go_wp2_with fail
          go_round
          case rel => refine ⟨_, ?_, rfl, HR.out⟩; decide
          case measure => simp [intOf]
    · obtain rfl : k = 5 := by omega
      rw [from_end] at hR
      have HR := hid hR
      clear hR
      by_cases c1 : pre [38, 35, 120] l = true
      · have hlen := pre_len c1
        have hx : (text l).extract 3 (text l).size = text (l.drop 3) := text_extract l 3
        rw [s1] at hx
        have hnum := fun w => number_any (l.drop 3) 16 6 (by omega) (by omega) (by omega) (by simp; omega) w
        have hr2 : refer l = up 3 (numb 16 6 (l.drop 3)) := by rw [HR.out, if_pos c1]
        have hle := (numb_le 16 6 (l.drop 3)).1
        have hbg := fun a ha w => begins_lit l [38, 35, 120] hl (by decide) true c1 a ha w
        have HH := hid hbg
        simp only [List.length_drop] at hle
        simp only [List.length_cons, List.length_nil] at hlen
        unfold pairV at hnum
        generalize numb 16 6 (l.drop 3) = r at *
        have HN := hid hnum
        have H2 := hid hr2
        clear c1 hnum hr2 hbg
        by_cases hz : r.2 = 0
        · have hzb : ((r.2 : Int) == 0) = true := by rw [beq_iff_eq]; omega
          have HZ := hid hz
          clear hz
          go_wp2_with fail
          refine (HH.out _ (by decide) _).mono ?_
          rintro e w1 ⟨rfl, rfl⟩
          go_wp2_with fail
          refine (HN.out _).mono ?_
          rintro e w1 ⟨rfl, rfl⟩
          go_wp2
          go_ret2
          exact ⟨by rw [H2.out, up, if_pos HZ.out]; rfl, ((b0 _).alloc (Nat.le_refl _) _).alloc (by simp) _⟩
        · have hzb : ((r.2 : Int) == 0) = false := by rw [beq_eq_false_iff_ne]; omega
          have HZ := hid hz
          clear hz
          go_wp2_with fail
          refine (HH.out _ (by decide) _).mono ?_
          rintro e w1 ⟨rfl, rfl⟩
          go_wp2_with fail
          refine (HN.out _).mono ?_
          rintro e w1 ⟨rfl, rfl⟩
          go_wp2
          go_ret2
          exact ⟨by rw [H2.out, up, if_neg HZ.out]; rfl, ((b0 _).alloc (Nat.le_refl _) _).alloc (by simp) _⟩
      · have c1' : pre [38, 35, 120] l = false := by simpa using c1
        have hbg := fun a ha w => begins_lit l [38, 35, 120] hl (by decide) false c1' a ha w
        have HH := hid hbg
        have hR2 : refer l = if pre [38, 35] l = true then up 2 (numb 10 7 (l.drop 2)) else (0, 0) := by rw [HR.out, if_neg c1]
        clear hbg c1 c1'
        by_cases c2 : pre [38, 35] l = true
        · have hlen := pre_len c2
          have hx : (text l).extract 2 (text l).size = text (l.drop 2) := text_extract l 2
          rw [s1] at hx
          have hnum := fun w => number_any (l.drop 2) 10 7 (by omega) (by omega) (by omega) (by simp; omega) w
          have hr2 : refer l = up 2 (numb 10 7 (l.drop 2)) := by rw [hR2, if_pos c2]
          have hle := (numb_le 10 7 (l.drop 2)).1
          have hbg := fun a ha w => begins_lit l [38, 35] hl (by decide) true c2 a ha w
          have HH2 := hid hbg
          simp only [List.length_drop] at hle
          simp only [List.length_cons, List.length_nil] at hlen
          unfold pairV at hnum
          generalize numb 10 7 (l.drop 2) = r at *
          have HN := hid hnum
          have H2 := hid hr2
          clear c2 hnum hr2 hbg hR2
          by_cases hz : r.2 = 0
          · have hzb : ((r.2 : Int) == 0) = true := by rw [beq_iff_eq]; omega
            have HZ := hid hz
            clear hz
            go_wp2_with fail
            refine (HH.out _ (by decide) _).mono ?_
            rintro e w1 ⟨rfl, rfl⟩
            go_wp2_with fail
            refine (HH2.out _ (by decide) _).mono ?_
            rintro e w1 ⟨rfl, rfl⟩
            go_wp2_with fail
            refine (HN.out _).mono ?_
            rintro e w1 ⟨rfl, rfl⟩
            go_wp2
            go_ret2
            exact ⟨by rw [H2.out, up, if_pos HZ.out]; rfl, ((b0 _).alloc (Nat.le_refl _) _).alloc (by simp) _⟩
          · have hzb : ((r.2 : Int) == 0) = false := by rw [beq_eq_false_iff_ne]; omega
            have HZ := hid hz
            clear hz
            go_wp2_with fail
            refine (HH.out _ (by decide) _).mono ?_
            rintro e w1 ⟨rfl, rfl⟩
            go_wp2_with fail
            refine (HH2.out _ (by decide) _).mono ?_
            rintro e w1 ⟨rfl, rfl⟩
            go_wp2_with fail
            refine (HN.out _).mono ?_
            rintro e w1 ⟨rfl, rfl⟩
            go_wp2
            go_ret2
            exact ⟨by rw [H2.out, up, if_neg HZ.out]; rfl, ((b0 _).alloc (Nat.le_refl _) _).alloc (by simp) _⟩
        · have c2' : pre [38, 35] l = false := by simpa using c2
          have hbg := fun a ha w => begins_lit l [38, 35] hl (by decide) false c2' a ha w
          have HH2 := hid hbg
          rw [if_neg c2] at hR2
          have H2 := hid hR2
          clear hbg c2 c2' hR2
          go_wp2_with fail
          refine (HH.out _ (by decide) _).mono ?_
          rintro e w1 ⟨rfl, rfl⟩
          go_wp2_with fail
          refine (HH2.out _ (by decide) _).mono ?_
          rintro e w1 ⟨rfl, rfl⟩
          go_wp2
          go_ret2
          exact ⟨by rw [H2.out]; rfl, ((b0 _).alloc (Nat.le_refl _) _).alloc (by simp) _⟩
end Go.Proofs.YtabplemabcahgaaDoor.Ent
