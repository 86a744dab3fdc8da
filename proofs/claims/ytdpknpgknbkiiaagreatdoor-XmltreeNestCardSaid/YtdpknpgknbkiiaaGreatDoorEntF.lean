/- Layer 3: contracts of strconv.ParseUint as numbered calls it, of numbered, named, referred, and of the code's reference. -/
import Derived.Test.YtdpknpgknbkiiaaGreatDoorEntE
set_option linter.unusedVariables false
set_option linter.unusedSimpArgs false
namespace Go.Proofs.YtdpknpgknbkiiaaGreatDoor.Ent
open Go Go.Proofs.YtdpknpgknbkiiaaGreatDoor Go.Proofs.YtdpknpgknbkiiaaGreatDoor.Utf Go.RowKit
set_option maxRecDepth 100000

/-- The library's error is one. -/
def Errs (w : World) : Prop := ∃ ev, w.cell? ⟨3, 0, none⟩ = some ev ∧ (ev = .nilIface ∨ ∃ te pe, ev = .iface te pe)
theorem Errs.below {w w' : World} (h : Errs w) {B : Nat} (hb : Below B w w') (hB : w.heap.size ≤ B) : Errs w' := by
  obtain ⟨ev, h1, h2⟩ := h
  have hlt := World.block_lt_of_cell? _ _ h1
  exact ⟨ev, by rw [hb.cell (p := ⟨_, 0, none⟩) (Nat.lt_of_lt_of_le hlt hB)]; exact h1, h2⟩

theorem inner_both (base : Nat) (hb : base = 10 ∨ base = 16) (l : List UInt8) (hl : l.length ≤ 7) (hne : l ≠ []) (w : World) :
    Calls Tryz.prog 132 #[.string (text l), .int .i64 base, .int .i64 31] w fun e w' => e = .returned (puV base l) ∧ Below w.heap.size w w' := by
  rcases hb with rfl | rfl
  · exact inner_10 l hl hne w
  · exact inner_16 l hl hne w

/-- Digits, all right. -/
def Ok (base : Nat) (l : List UInt8) : Prop := l ≠ [] ∧ l.all (isd base) = true

set_option maxHeartbeats 1000000 in
theorem ParseUint_yes (base : Nat) (hb : base = 10 ∨ base = 16) (l : List UInt8) (hl : l.length ≤ 7) (h : Ok base l) (w : World) :
    Calls Tryz.prog 131 #[.string (text l), .int .i64 base, .int .i64 31] w fun e w' => e = .returned (.tuple #[.int .u64 (val base 0 l : Nat), .nilIface]) ∧ Below w.heap.size w w' := by
  have hi := fun w => inner_both base hb l hl h.1 w
  unfold puV at hi
  rw [if_pos h.2] at hi
  have HI := hid hi
  clear hi h hb
  go_enter Tryz.func131, Tryz.ntmps131
  go_wp2_with fail
  refine (HI.out _).mono ?_
  rintro e w1 ⟨rfl, hb1⟩
  go_wp2
  go_ret2
  exact ⟨rfl, hb1⟩

set_option maxHeartbeats 1000000 in
theorem ParseUint_no (base : Nat) (hb : base = 10 ∨ base = 16) (l : List UInt8) (hl : l.length ≤ 7) (h : ¬ Ok base l) (w : World) (hE : Errs w) :
    Calls Tryz.prog 131 #[.string (text l), .int .i64 base, .int .i64 31] w fun e w' => ∃ N, e = .returned (.tuple #[.int .u64 0, .iface 179 (.pointer (some ⟨N, 0, none⟩))]) ∧ Below w.heap.size w w' := by
  have hsz : (text l).size ≤ 281474976710656 := by rw [text_size]; omega
  have hi : ∀ w, Calls Tryz.prog 132 #[.string (text l), .int .i64 base, .int .i64 31] w fun e w' => e = .returned (.tuple #[.int .u64 0, .iface 177 (.int .i64 2)]) ∧ Below w.heap.size w w' := by
    intro w
    by_cases hne : l = []
    · subst hne
      refine (Tryz.internal_strconv_ParseUint_empty base 31 w).mono ?_
      rintro e w' ⟨rfl, rfl⟩
      exact ⟨rfl, b0 _⟩
    · have := inner_both base hb l hl hne w
      unfold puV at this
      rw [if_neg (fun k => h ⟨hne, k⟩)] at this
      exact this
  have ht := fun w (hE : Errs w) => (show Calls Tryz.prog 133 #[.string ⟨#[80, 97, 114, 115, 101, 85, 105, 110, 116]⟩, .string (text l), .int .i64 base, .int .i64 31, .iface 177 (.int .i64 2)] w fun e w' => ∃ N, e = .returned (.iface 179 (.pointer (some ⟨N, 0, none⟩))) ∧ Below w.heap.size w w' by
    obtain ⟨ev, h1, h2⟩ := hE
    refine (Tryz.strconv_toError_syntax _ (text l) base 31 ev w hsz h1 h2).mono ?_
    rintro e w' ⟨N, rfl, _, _, hb⟩
    exact ⟨N, rfl, hb⟩)
  have HI := hid hi
  have HT := hid ht
  have HE := hid hE
  clear hi ht h hb hE hsz
  go_enter Tryz.func131, Tryz.ntmps131
  go_wp2_with fail
  refine (HI.out _).mono ?_
  rintro e w1 ⟨rfl, hb1⟩
  go_wp2_with fail
  refine (HT.out _ (HE.out.below hb1 (Nat.le_refl _))).mono ?_
  rintro e w2 ⟨N, rfl, hb2⟩
  go_wp2
  go_ret2
  exact ⟨N, rfl, bt hb1 hb2⟩

/-- A character, or none. -/
def optV : Option Nat → Value
  | some c => .tuple #[.int .i32 c, .bool true]
  | none => .tuple #[.int .i32 0, .bool false]

set_option maxHeartbeats 1000000 in
theorem numbered_any (base most : Nat) (hb : base = 10 ∨ base = 16) (hm : most ≤ 7) (l : List UInt8) (hl : l.length ≤ 1000000000) (w : World) (hE : Errs w) :
    Calls Tryz.prog 126 #[.string (text l), .int .i64 base, .int .i64 most] w fun e w' => e = .returned (optV (numd base most l)) ∧ Below w.heap.size w w' := by
  have s1 : (text l).size = l.length := text_size l
  by_cases hlen : l.length ≤ most
  · by_cases hok : Ok base l
    · have hp := fun w => ParseUint_yes base hb l (by omega) hok w
      have hv := val_lt (base := base) (by omega) l 0 1 (by omega) (fun b hb => List.all_eq_true.1 hok.2 b hb)
      have hpw := pow16 base l.length (by omega) (by omega)
      have hv2 : val base 0 l < 268435456 := by omega
      clear hv hpw
      have hF := fun w => Fine_any (val base 0 l : Nat) w
      have hnd : numd base most l = if fine (val base 0 l : Nat) = true then some (val base 0 l) else none := by
        unfold numd
        by_cases c : fine (val base 0 l : Nat) = true
        · rw [if_pos c, if_pos ⟨hlen, hok.1, hok.2, c⟩]
        · rw [if_neg c, if_neg (fun k => c k.2.2.2)]
      generalize val base 0 l = x at *
      have HP := hid hp
      have HN := hid hnd
      have HK := hid hok
      clear hp hnd hok hb
      by_cases hf : fine (x : Int) = true
      · rw [hf] at hF
        have HF := hid hF
        have HH := hid hf
        clear hF hf
        go_enter Tryz.func126, Tryz.ntmps126
        go_wp2_with fail
        refine (HP.out _).mono ?_
        rintro e w1 ⟨rfl, hb1⟩
        go_wp2_with fail
        refine (HF.out _).mono ?_
        rintro e w2 ⟨rfl, rfl⟩
        go_wp2
        go_ret2
        exact ⟨by rw [HN.out, if_pos HH.out]; rfl, hb1⟩
      · have hf' : fine (x : Int) = false := by simpa using hf
        rw [hf'] at hF
        have HF := hid hF
        have HH := hid hf
        clear hF hf hf'
        go_enter Tryz.func126, Tryz.ntmps126
        go_wp2_with fail
        refine (HP.out _).mono ?_
        rintro e w1 ⟨rfl, hb1⟩
        go_wp2_with fail
        refine (HF.out _).mono ?_
        rintro e w2 ⟨rfl, rfl⟩
        go_wp2
        go_ret2
        exact ⟨by rw [HN.out, if_neg HH.out]; rfl, hb1⟩
    · have hp := fun w hE => ParseUint_no base hb l (by omega) hok w hE
      have hnd : numd base most l = none := by
        unfold numd; rw [if_neg (fun k => hok ⟨k.2.1, k.2.2.1⟩)]
      have HP := hid hp
      have HN := hid hnd
      have HE := hid hE
      clear hp hnd hok hb hE
      go_enter Tryz.func126, Tryz.ntmps126
      go_wp2_with fail
      refine (HP.out _ HE.out).mono ?_
      rintro e w1 ⟨N, rfl, hb1⟩
      go_wp2
      go_ret2
      exact ⟨by rw [HN.out]; rfl, hb1⟩
  · have hnd : numd base most l = none := by
      unfold numd; rw [if_neg (fun k => hlen k.1)]
    have HN := hid hnd
    clear hnd hb hE
    go_enter Tryz.func126, Tryz.ntmps126
    go_wp2
    go_ret2
    exact ⟨by rw [HN.out]; rfl, b0 _⟩

theorem named_is (x : List UInt8) : named x = if x = [97, 109, 112] then some 38 else if x = [108, 116] then some 60 else if x = [103, 116] then some 62 else if x = [113, 117, 111, 116] then some 34 else if x = [97, 112, 111, 115] then some 39 else none := by
  have key : ∀ (y : List UInt8), ((y == x) = true) = (x = y) := fun y => by rw [beq_iff_eq]; exact propext ⟨fun h => h.symm, fun h => h.symm⟩
  unfold named nameds
  simp only [List.find?_cons, List.find?_nil]
  by_cases h1 : x = [97, 109, 112]
  · subst h1; rfl
  rw [if_neg h1, show (([97, 109, 112] : List UInt8) == x) = false from by rw [beq_eq_false_iff_ne]; exact fun e => h1 e.symm]
  by_cases h2 : x = [108, 116]
  · subst h2; rfl
  rw [if_neg h2, show (([108, 116] : List UInt8) == x) = false from by rw [beq_eq_false_iff_ne]; exact fun e => h2 e.symm]
  by_cases h3 : x = [103, 116]
  · subst h3; rfl
  rw [if_neg h3, show (([103, 116] : List UInt8) == x) = false from by rw [beq_eq_false_iff_ne]; exact fun e => h3 e.symm]
  by_cases h4 : x = [113, 117, 111, 116]
  · subst h4; rfl
  rw [if_neg h4, show (([113, 117, 111, 116] : List UInt8) == x) = false from by rw [beq_eq_false_iff_ne]; exact fun e => h4 e.symm]
  by_cases h5 : x = [97, 112, 111, 115]
  · subst h5; rfl
  rw [if_neg h5, show (([97, 112, 111, 115] : List UInt8) == x) = false from by rw [beq_eq_false_iff_ne]; exact fun e => h5 e.symm]
  rfl

theorem list_no {x y : List UInt8} (h : ¬ x = y) : ((text x).toList == y) = false := by rw [text_list, beq_eq_false_iff_ne]; exact h
theorem list_yes {x y : List UInt8} (h : x = y) : ((text x).toList == y) = true := by rw [text_list, beq_iff_eq]; exact h

set_option maxHeartbeats 1000000 in
theorem named_any (x : List UInt8) (w : World) :
    Calls Tryz.prog 127 #[.string (text x)] w fun e w' => e = .returned (optV (named x)) ∧ w = w' := by
  have HN := hid (named_is x)
  by_cases h1 : x = [97, 109, 112]
  · have k1 := list_yes h1
    have H1 := hid h1
    clear h1
    go_enter Tryz.func127, Tryz.ntmps127
    go_wp2
    go_ret2
    exact ⟨by rw [HN.out, if_pos H1.out]; rfl, rfl⟩
  have k1 := list_no h1
  have H1 := hid h1
  clear h1
  by_cases h2 : x = [108, 116]
  · have k2 := list_yes h2
    have H2 := hid h2
    clear h2
    go_enter Tryz.func127, Tryz.ntmps127
    go_wp2
    go_ret2
    exact ⟨by rw [HN.out, if_neg H1.out, if_pos H2.out]; rfl, rfl⟩
  have k2 := list_no h2
  have H2 := hid h2
  clear h2
  by_cases h3 : x = [103, 116]
  · have k3 := list_yes h3
    have H3 := hid h3
    clear h3
    go_enter Tryz.func127, Tryz.ntmps127
    go_wp2
    go_ret2
    exact ⟨by rw [HN.out, if_neg H1.out, if_neg H2.out, if_pos H3.out]; rfl, rfl⟩
  have k3 := list_no h3
  have H3 := hid h3
  clear h3
  by_cases h4 : x = [113, 117, 111, 116]
  · have k4 := list_yes h4
    have H4 := hid h4
    clear h4
    go_enter Tryz.func127, Tryz.ntmps127
    go_wp2
    go_ret2
    exact ⟨by rw [HN.out, if_neg H1.out, if_neg H2.out, if_neg H3.out, if_pos H4.out]; rfl, rfl⟩
  have k4 := list_no h4
  have H4 := hid h4
  clear h4
  by_cases h5 : x = [97, 112, 111, 115]
  · have k5 := list_yes h5
    have H5 := hid h5
    clear h5
    go_enter Tryz.func127, Tryz.ntmps127
    go_wp2
    go_ret2
    exact ⟨by rw [HN.out, if_neg H1.out, if_neg H2.out, if_neg H3.out, if_neg H4.out, if_pos H5.out]; rfl, rfl⟩
  have k5 := list_no h5
  have H5 := hid h5
  clear h5
  go_enter Tryz.func127, Tryz.ntmps127
  go_wp2
  go_ret2
  exact ⟨by rw [HN.out, if_neg H1.out, if_neg H2.out, if_neg H3.out, if_neg H4.out, if_neg H5.out]; rfl, rfl⟩
end Go.Proofs.YtdpknpgknbkiiaaGreatDoor.Ent
