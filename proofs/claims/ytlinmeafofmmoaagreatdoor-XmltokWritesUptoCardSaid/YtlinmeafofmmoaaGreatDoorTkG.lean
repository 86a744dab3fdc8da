/- Layer 4: the document's examples. -/
import Derived.Test.YtlinmeafofmmoaaGreatDoorTkE
import Derived.Test.YtlinmeafofmmoaaGreatDoorTkF
set_option linter.unusedVariables false
set_option linter.unusedSimpArgs false
namespace Go.Proofs.YtlinmeafofmmoaaGreatDoor.Tok
open Go Go.Proofs.YtlinmeafofmmoaaGreatDoor Go.Proofs.YtlinmeafofmmoaaGreatDoor.Utf Go.Proofs.YtlinmeafofmmoaaGreatDoor.Names Go.Proofs.YtlinmeafofmmoaaGreatDoor.Ent Go.RowKit
set_option maxRecDepth 100000

theorem alive_1 : tokens [60, 97, 32, 98, 61, 39, 49, 39, 62, 120, 38, 108, 116, 59, 60, 47, 97, 62] = ([⟨0, 0, [97], [⟨3, [98], [49]⟩]⟩, ⟨3, 9, [120, 60], []⟩, ⟨1, 14, [97], []⟩], 18, 0) := by rfl
theorem alive_2 : tokens [60, 97, 32, 98, 61, 34, 49, 34, 32, 98, 61, 34, 50, 34, 47, 62] = ([], 9, 8) := by rfl
theorem alive_3 : tokens [60, 33, 68, 79, 67, 84, 89, 80, 69, 32, 97, 62] = ([], 0, 5) := by rfl
theorem FitM.alloc {w : World} (h : FitM w) (o : Obj) : FitM (w.alloc o) := h.below (ba (b0 w) o)
/-- Tokens of bytes that are written out. -/
theorem Tokens_lit (l : List UInt8) (ts : List Tok) (p e : Nat) (C : Array Value) (n : Nat) (h : tokens l = (ts, p, e)) (hn : l.length = n) (hl : n ≤ 1000000) (hs : C.size = n * 1) (hC : C.toList = cellsOf l) (W : World) (hf : FitM W) :
    Calls Tryz.prog 15 #[.slice (some ⟨W.heap.size, 0, none⟩) n n] (W.alloc (.cells C 5 (n, n + 1))) fun x w' => (∃ a, x = .returned (.tuple #[a, .int .i64 p, .int .i64 e]) ∧ Toks w' a ts) ∧ Below (W.alloc (.cells C 5 (n, n + 1))).heap.size (W.alloc (.cells C 5 (n, n + 1))) w' := by
  have hb : Bytes (W.alloc (.cells C 5 (n, n + 1))) (.slice (some ⟨W.heap.size, 0, none⟩) n n) l := by
    unfold Bytes
    rw [hn, ← hC]
    exact Row.ofBuild W C _ n hs (by omega) (n, n + 1)
  have := Tokens_any hb (hf.alloc _) (by omega)
  rw [h] at this
  exact this

open Classical in
theorem alive_same : sameB false [⟨0, 0, [97], [⟨3, [98], [49]⟩]⟩, ⟨3, 9, [120, 60], []⟩, ⟨1, 14, [97], []⟩] [⟨0, 0, [97], [⟨0, [98], [49]⟩]⟩, ⟨3, 0, [120, 60], []⟩, ⟨1, 0, [97], []⟩] = true := by
  unfold sameB
  exact decide_eq_true rfl

set_option maxHeartbeats 4000000 in
theorem alive_any (w : World) (hw : FitM w) :
    Calls Tryz.prog 9 #[] w fun e w' => e = .returned (.bool true) ∧ Below w.heap.size w w' := by
  have hc1 : ∀ X : World, (convert 25 25 (.slice (some ⟨X.heap.size, 0, none⟩) 18 18)).run Tryz.prog (X.alloc (.cells #[.int .u8 60, .int .u8 97, .int .u8 32, .int .u8 98, .int .u8 61, .int .u8 39, .int .u8 49, .int .u8 39, .int .u8 62, .int .u8 120, .int .u8 38, .int .u8 108, .int .u8 116, .int .u8 59, .int .u8 60, .int .u8 47, .int .u8 97, .int .u8 62] 5)) = .ok (.slice (some ⟨X.heap.size, 0, none⟩) 18 18) (X.alloc (.cells #[.int .u8 60, .int .u8 97, .int .u8 32, .int .u8 98, .int .u8 61, .int .u8 39, .int .u8 49, .int .u8 39, .int .u8 62, .int .u8 120, .int .u8 38, .int .u8 108, .int .u8 116, .int .u8 59, .int .u8 60, .int .u8 47, .int .u8 97, .int .u8 62] 5 (18, 19))) := fun X => Lib.run_convert_bytes_const X _ 5 #[.int .u8 60, .int .u8 97, .int .u8 32, .int .u8 98, .int .u8 61, .int .u8 39, .int .u8 49, .int .u8 39, .int .u8 62, .int .u8 120, .int .u8 38, .int .u8 108, .int .u8 116, .int .u8 59, .int .u8 60, .int .u8 47, .int .u8 97, .int .u8 62] 18 18 underB under8
  have hc2 : ∀ X : World, (convert 25 25 (.slice (some ⟨X.heap.size, 0, none⟩) 16 16)).run Tryz.prog (X.alloc (.cells #[.int .u8 60, .int .u8 97, .int .u8 32, .int .u8 98, .int .u8 61, .int .u8 34, .int .u8 49, .int .u8 34, .int .u8 32, .int .u8 98, .int .u8 61, .int .u8 34, .int .u8 50, .int .u8 34, .int .u8 47, .int .u8 62] 5)) = .ok (.slice (some ⟨X.heap.size, 0, none⟩) 16 16) (X.alloc (.cells #[.int .u8 60, .int .u8 97, .int .u8 32, .int .u8 98, .int .u8 61, .int .u8 34, .int .u8 49, .int .u8 34, .int .u8 32, .int .u8 98, .int .u8 61, .int .u8 34, .int .u8 50, .int .u8 34, .int .u8 47, .int .u8 62] 5 (16, 17))) := fun X => Lib.run_convert_bytes_const X _ 5 #[.int .u8 60, .int .u8 97, .int .u8 32, .int .u8 98, .int .u8 61, .int .u8 34, .int .u8 49, .int .u8 34, .int .u8 32, .int .u8 98, .int .u8 61, .int .u8 34, .int .u8 50, .int .u8 34, .int .u8 47, .int .u8 62] 16 16 underB under8
  have hc3 : ∀ X : World, (convert 25 25 (.slice (some ⟨X.heap.size, 0, none⟩) 12 12)).run Tryz.prog (X.alloc (.cells #[.int .u8 60, .int .u8 33, .int .u8 68, .int .u8 79, .int .u8 67, .int .u8 84, .int .u8 89, .int .u8 80, .int .u8 69, .int .u8 32, .int .u8 97, .int .u8 62] 5)) = .ok (.slice (some ⟨X.heap.size, 0, none⟩) 12 12) (X.alloc (.cells #[.int .u8 60, .int .u8 33, .int .u8 68, .int .u8 79, .int .u8 67, .int .u8 84, .int .u8 89, .int .u8 80, .int .u8 69, .int .u8 32, .int .u8 97, .int .u8 62] 5 (12, 13))) := fun X => Lib.run_convert_bytes_const X _ 5 #[.int .u8 60, .int .u8 33, .int .u8 68, .int .u8 79, .int .u8 67, .int .u8 84, .int .u8 89, .int .u8 80, .int .u8 69, .int .u8 32, .int .u8 97, .int .u8 62] 12 12 underB under8
  have HW := hid hw
  clear hw
  go_enter Tryz.func9, Tryz.ntmps9
  go_wp2_with fail
  refine (Tokens_lit [60, 97, 32, 98, 61, 39, 49, 39, 62, 120, 38, 108, 116, 59, 60, 47, 97, 62] _ _ _ #[.int .u8 60, .int .u8 97, .int .u8 32, .int .u8 98, .int .u8 61, .int .u8 39, .int .u8 49, .int .u8 39, .int .u8 62, .int .u8 120, .int .u8 38, .int .u8 108, .int .u8 116, .int .u8 59, .int .u8 60, .int .u8 47, .int .u8 97, .int .u8 62] 18 alive_1 rfl (by decide) rfl rfl w HW.out).mono ?_
  rintro e w1 ⟨⟨a, rfl, ha⟩, hb⟩
  have HB1 := hid ((ba (b0 w) _).trans (hb.mono (by simp)) : Below w.heap.size w w1)
  have HA1 := hid ha
  clear ha hb
  go_wp2_with fail
  refine (Tokens_lit [60, 97, 32, 98, 61, 34, 49, 34, 32, 98, 61, 34, 50, 34, 47, 62] _ _ _ #[.int .u8 60, .int .u8 97, .int .u8 32, .int .u8 98, .int .u8 61, .int .u8 34, .int .u8 49, .int .u8 34, .int .u8 32, .int .u8 98, .int .u8 61, .int .u8 34, .int .u8 50, .int .u8 34, .int .u8 47, .int .u8 62] 16 alive_2 rfl (by decide) rfl rfl w1 (HW.out.below HB1.out)).mono ?_
  rintro e w2 ⟨⟨a2, rfl, _⟩, hb⟩
  have hb2 : Below w1.heap.size w1 w2 := (ba (b0 w1) _).trans (hb.mono (by simp))
  have HA2 := hid (HA1.out.below hb2 (Nat.le_refl _))
  have HB2 := hid (bt HB1.out hb2)
  clear hb hb2
  go_wp2_with fail
  refine (Tokens_lit [60, 33, 68, 79, 67, 84, 89, 80, 69, 32, 97, 62] _ _ _ #[.int .u8 60, .int .u8 33, .int .u8 68, .int .u8 79, .int .u8 67, .int .u8 84, .int .u8 89, .int .u8 80, .int .u8 69, .int .u8 32, .int .u8 97, .int .u8 62] 12 alive_3 rfl (by decide) rfl rfl w2 (HW.out.below HB2.out)).mono ?_
  rintro e w3 ⟨⟨a3, rfl, _⟩, hb⟩
  have hb3 : Below w2.heap.size w2 w3 := (ba (b0 w2) _).trans (hb.mono (by simp))
  have HA3 := hid (HA2.out.below hb3 (Nat.le_refl _))
  have HB3 := hid (bt HB2.out hb3)
  clear hb hb3
  have hb5 := ba (ba (b0 w3) (.cells #[.int .i64 0, .string ⟨#[98]⟩, .string ⟨#[49]⟩] 56)) (.cells #[.int .i64 0, .int .i64 0, .string ⟨#[97]⟩, .slice (some ⟨w3.heap.size, 0, none⟩) 1 1, .int .i64 3, .int .i64 0, .string ⟨#[120, 60]⟩, .slice none 0 0, .int .i64 1, .int .i64 0, .string ⟨#[97]⟩, .slice none 0 0] 59)
  have hT : Toks ((w3.alloc (.cells #[.int .i64 0, .string ⟨#[98]⟩, .string ⟨#[49]⟩] 56)).alloc (.cells #[.int .i64 0, .int .i64 0, .string ⟨#[97]⟩, .slice (some ⟨w3.heap.size, 0, none⟩) 1 1, .int .i64 3, .int .i64 0, .string ⟨#[120, 60]⟩, .slice none 0 0, .int .i64 1, .int .i64 0, .string ⟨#[97]⟩, .slice none 0 0] 59)) (.slice (some ⟨w3.heap.size + 1, 0, none⟩) 3 3) [⟨0, 0, [97], [⟨0, [98], [49]⟩]⟩, ⟨3, 0, [120, 60], []⟩, ⟨1, 0, [97], []⟩] := by
    refine ⟨[(⟨0, 0, [97], [⟨0, [98], [49]⟩]⟩, .slice (some ⟨w3.heap.size, 0, none⟩) 1 1), (⟨3, 0, [120, 60], []⟩, .slice none 0 0), (⟨1, 0, [97], []⟩, .slice none 0 0)], rfl, ?_, ?_⟩
    · have := Row.ofBuild (sz := 4) (w3.alloc (.cells #[.int .i64 0, .string ⟨#[98]⟩, .string ⟨#[49]⟩] 56)) #[.int .i64 0, .int .i64 0, .string ⟨#[97]⟩, .slice (some ⟨w3.heap.size, 0, none⟩) 1 1, .int .i64 3, .int .i64 0, .string ⟨#[120, 60]⟩, .slice none 0 0, .int .i64 1, .int .i64 0, .string ⟨#[97]⟩, .slice none 0 0] 59 3 rfl (by omega)
      rw [show (w3.alloc (.cells #[.int .i64 0, .string ⟨#[98]⟩, .string ⟨#[49]⟩] 56)).heap.size = w3.heap.size + 1 from by simp] at this
      exact this
    · intro x hx
      simp only [List.mem_cons, List.mem_nil_iff, or_false] at hx
      rcases hx with rfl | rfl | rfl
      · have : Prs (w3.alloc (.cells #[.int .i64 0, .string ⟨#[98]⟩, .string ⟨#[49]⟩] 56)) (.slice (some ⟨w3.heap.size, 0, none⟩) 1 1) [⟨0, [98], [49]⟩] := Row.ofBuild (sz := 3) w3 _ _ 1 rfl (by omega)
        exact this.below (ba (b0 _) _) (Nat.le_refl _)
      · exact Prs.nil _
      · exact Prs.nil _
  have hS := RSame_any false _ _ a (.slice (some ⟨w3.heap.size + 1, 0, none⟩) 3 3) _ (HA3.out.below hb5 (Nat.le_refl _)) hT (by decide)
  rw [alive_same] at hS
  have HS := hid hS
  have HB5 := hid (bt HB3.out hb5)
  clear hS hT hb5
  go_wp2_with fail
  refine HS.out.mono ?_
  rintro e w6 ⟨rfl, hb6⟩
  go_wp2
  go_ret
  exact ⟨rfl, bt HB5.out hb6⟩
end Go.Proofs.YtlinmeafofmmoaaGreatDoor.Tok
