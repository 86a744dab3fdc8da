/- Layer 2: contract of Split. -/
import Derived.Test.YtdpknpgknbkiiaaGreatDoorNamesA
import Derived.Shelf.RegionOpenPlain
set_option linter.unusedVariables false
set_option linter.unusedSimpArgs false
namespace Go.Proofs.YtdpknpgknbkiiaaGreatDoor.Names
open Go Go.Proofs.YtdpknpgknbkiiaaGreatDoor Go.Proofs.YtdpknpgknbkiiaaGreatDoor.Utf Go.RowKit
set_option maxRecDepth 100000

theorem indexByte_first (c : UInt8) : ∀ l : List UInt8, Lib.indexByte l c = match firstAt c l with | none => -1 | some i => (i : Int)
  | [] => rfl
  | x :: r => by
    have ih := indexByte_first c r
    unfold Lib.indexByte firstAt
    by_cases h : x = c
    · simp [h]
    · simp only [h, if_false]
      rw [ih]
      cases firstAt c r with
      | none => simp [h]
      | some i =>
        have : ((i : Int) == -1) = false := by rw [beq_eq_false_iff_ne]; omega
        simp [h, this]

/-- What Cut answers, at a text of one byte. -/
def cutV (c : UInt8) (l : List UInt8) : Value := match firstAt c l with
  | none => .tuple #[.string (text l), .string ⟨#[]⟩, .bool false]
  | some i => .tuple #[.string (text (l.take i)), .string (text (l.drop (i + 1))), .bool true]

theorem text_zero (l : List UInt8) (i : Nat) : (text l).extract 0 i = text (l.take i) := by rw [text_cut]; rfl

set_option maxHeartbeats 1000000 in
theorem liteCut_any (c : UInt8) (l : List UInt8) (hl : l.length ≤ 281474976710656) (w : World) :
    Calls Tryz.prog 67 #[.string (text l), .string ⟨#[c]⟩] w fun e w' => e = .returned (cutV c l) ∧ Below w.heap.size w w' := by
  have hi := Tryz.stringslite_Index_one (text l) c
  rw [text_data, indexByte_first] at hi
  have hsz := text_size l
  cases hf : firstAt c l with
  | none =>
    rw [hf] at hi
    have H := hid hi
    have F := hid hf
    clear hi hf
    go_enter Tryz.func67, Tryz.ntmps67
    go_wp2_with (go_at_call 95; refine (H.out _).mono ?_; rintro e w' ⟨rfl, rfl⟩)
    go_ret3
    exact ⟨by unfold cutV; rw [F.out]; rfl, b0 _⟩
  | some i =>
    rw [hf] at hi
    have hlt := firstAt_lt hf
    have H := hid hi
    have F := hid hf
    clear hi hf
    have h1 : (0 : Int) ≤ (i : Int) := by omega
    have h2 : (i : Int) ≤ ((text l).size : Int) := by omega
    have h3 : (0 : Int) ≤ (i : Int) + 1 := by omega
    have h4 : (i : Int) + 1 ≤ ((text l).size : Int) := by omega
    have HSZ := hid hsz
    clear hsz
    have mixed : Tryz.prog.follows Departure.mixedOrders = true := by kernel_rfl
    go_enter Tryz.func67, Tryz.ntmps67
    go_wp2_with (go_at_call 95; refine (H.out _).mono ?_; rintro e w' ⟨rfl, rfl⟩)
    go_region_o
    go_wp2
    go_ret3
    refine ⟨?_, ?_⟩
    · unfold cutV; rw [F.out]
      dsimp only
      rw [← text_zero, ← text_extract]
      rfl
    · exact (b0 _).drew

theorem Cut_any (c : UInt8) (l : List UInt8) (hl : l.length ≤ 281474976710656) (w : World) :
    Calls Tryz.prog 49 #[.string (text l), .string ⟨#[c]⟩] w fun e w' => e = .returned (cutV c l) ∧ Below w.heap.size w w' := by
  have hi := fun w => liteCut_any c l hl w
  unfold cutV at hi ⊢
  cases hf : firstAt c l with
  | none =>
    rw [hf] at hi
    have H := hid hi
    clear hi hf
    go_enter Tryz.func49, Tryz.ntmps49
    go_wp2_with (go_at_call 67; refine (H.out _).mono ?_; rintro e w' ⟨rfl, hb⟩)
    go_ret3
    exact ⟨rfl, hb⟩
  | some i =>
    rw [hf] at hi
    have H := hid hi
    clear hi hf
    go_enter Tryz.func49, Tryz.ntmps49
    go_wp2_with (go_at_call 67; refine (H.out _).mono ?_; rintro e w' ⟨rfl, hb⟩)
    go_ret3
    exact ⟨rfl, hb⟩

set_option maxHeartbeats 2000000 in
theorem Split_any (l : List UInt8) (hl : l.length ≤ 281474976710656) (w : World) :
    Calls Tryz.prog 64 #[.string (text l)] w fun e w' => e = .returned (.tuple #[.string (text (splitA l)), .string (text (splitB l)), .int .i64 (splitE l)]) ∧ Below w.heap.size w w' := by
  have hi := fun w => Cut_any 58 l hl w
  unfold cutV at hi
  have P0 := hid (fun w => Plain_any l hl w)
  cases hf : firstAt 58 l with
  | none =>
    rw [hf] at hi
    have H := hid hi
    cases hp : plainB l
    · have hs : splitO l = none := by unfold splitO; rw [hf, hp]; rfl
      have S := hid hs
      rw [hp] at P0
      clear hi hf hp hs
      go_enter Tryz.func64, Tryz.ntmps64
      go_wp2_with (first
        | (go_at_call 49; refine (H.out _).mono ?_; rintro e w1 ⟨rfl, hb1⟩)
        | (go_at_call 89; refine (P0.out _).mono ?_; rintro e w2 ⟨rfl, hb2⟩))
      go_ret3
      exact ⟨by unfold splitA splitB splitE; rw [S.out]; rfl, bt hb1 hb2⟩
    · have hs : splitO l = some ([], l) := by unfold splitO; rw [hf, hp]; rfl
      have S := hid hs
      rw [hp] at P0
      clear hi hf hp hs
      go_enter Tryz.func64, Tryz.ntmps64
      go_wp2_with (first
        | (go_at_call 49; refine (H.out _).mono ?_; rintro e w1 ⟨rfl, hb1⟩)
        | (go_at_call 89; refine (P0.out _).mono ?_; rintro e w2 ⟨rfl, hb2⟩))
      go_ret3
      exact ⟨by unfold splitA splitB splitE; rw [S.out]; rfl, bt hb1 hb2⟩
  | some i =>
    rw [hf] at hi
    have H := hid hi
    have hlt := firstAt_lt hf
    have P1 := hid (fun w => Plain_any (l.take i) (by simp; omega) w)
    have P2 := hid (fun w => Plain_any (l.drop (i + 1)) (by simp; omega) w)
    cases hp : plainB (l.take i)
    · have hs : splitO l = none := by unfold splitO; rw [hf]; dsimp only; rw [hp]; rfl
      have S := hid hs
      rw [hp] at P1
      clear hi hf hp hs
      go_enter Tryz.func64, Tryz.ntmps64
      go_wp2_with (first
        | (go_at_call 49; refine (H.out _).mono ?_; rintro e w1 ⟨rfl, hb1⟩)
        | (go_at_call 89; refine (P1.out _).mono ?_; rintro e w2 ⟨rfl, hb2⟩))
      go_ret3
      exact ⟨by unfold splitA splitB splitE; rw [S.out]; rfl, bt hb1 hb2⟩
    · rw [hp] at P1
      cases hq : plainB (l.drop (i + 1))
      · have hs : splitO l = none := by unfold splitO; rw [hf]; dsimp only; rw [hp, hq]; rfl
        have S := hid hs
        rw [hq] at P2
        clear hi hf hp hs hq
        go_enter Tryz.func64, Tryz.ntmps64
        go_wp2_with (go_at_call 49; refine (H.out _).mono ?_; rintro e w1 ⟨rfl, hb1⟩)
        go_at_call 89
        refine (P1.out _).mono ?_; rintro e w2 ⟨rfl, hb2⟩
        go_wp2_with (go_at_call 89; refine (P2.out _).mono ?_; rintro e w3 ⟨rfl, hb3⟩)
        go_ret3
        exact ⟨by unfold splitA splitB splitE; rw [S.out]; rfl, bt (bt hb1 hb2) hb3⟩
      · have hs : splitO l = some (l.take i, l.drop (i + 1)) := by unfold splitO; rw [hf]; dsimp only; rw [hp, hq]; rfl
        have S := hid hs
        rw [hq] at P2
        clear hi hf hp hs hq
        go_enter Tryz.func64, Tryz.ntmps64
        go_wp2_with (go_at_call 49; refine (H.out _).mono ?_; rintro e w1 ⟨rfl, hb1⟩)
        go_at_call 89
        refine (P1.out _).mono ?_; rintro e w2 ⟨rfl, hb2⟩
        go_wp2_with (go_at_call 89; refine (P2.out _).mono ?_; rintro e w3 ⟨rfl, hb3⟩)
        go_ret3
        exact ⟨by unfold splitA splitB splitE; rw [S.out]; rfl, bt (bt hb1 hb2) hb3⟩
end Go.Proofs.YtdpknpgknbkiiaaGreatDoor.Names
