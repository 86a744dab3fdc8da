/- Layer 10: the map of what kinds ask; contracts of rows, checkAlone, check, Check. -/
import Derived.Test.YtkmdclfkmmlloaaGreatDoorXpB
import Derived.Test.YtkmdclfkmmlloaaGreatDoorXpS
import Derived.Test.YtkmdclfkmmlloaaGreatDoorMapLit
set_option linter.unusedVariables false
set_option linter.unusedSimpArgs false
namespace Go.Proofs.YtkmdclfkmmlloaaGreatDoor.Xp
open Go Go.Proofs.YtkmdclfkmmlloaaGreatDoor Go.Proofs.YtkmdclfkmmlloaaGreatDoor.Utf Go.Proofs.YtkmdclfkmmlloaaGreatDoor.Names Go.RowKit
set_option maxRecDepth 100000

/-- What a kind's row holds. -/
structure RowOk (W : World) (k : Int) (pg : Nat) (pb : Array Value) (ng : Nat) (nb : Array Value) (tg : Nat) (tb : Array Value) : Prop where
  ep : ∀ args w, (callFunc pg args).run Tryz.prog w = .ok (.enter pg args) w
  en : ∀ args w, (callFunc ng args).run Tryz.prog w = .ok (.enter ng args) w
  et : ∀ args w, (callFunc tg args).run Tryz.prog w = .ok (.enter tg args) w
  cp : ∀ (n : Nat) (X : World), Calls Tryz.prog pg (#[.int .i64 n] ++ pb) X fun e w' => e = .returned (.bool (partsOk k n)) ∧ w' = X
  cn : ∀ (m n : Nat) (X : World), Calls Tryz.prog ng (#[.int .i64 m, .int .i64 n] ++ nb) X fun e w' => e = .returned (.bool (namesOk k m n)) ∧ w' = X
  ct : ∀ (X : World) (s : Nam), Below W.heap.size W X → s.length ≤ 2000000 → Calls Tryz.prog tg (#[.string (text s)] ++ tb) X fun e w' => e = .returned (.int .i64 (txt k s)) ∧ Below X.heap.size X w'
def RV (v : Value) : Option (DataW Value × List MemPlace) := some (.held v, [])
def rowV (pg : Nat) (pb : Array Value) (ng : Nat) (nb : Array Value) (tg : Nat) (tb : Array Value) : Value := .agg #[.func (.func pg) #[] pb, .func (.func ng) #[] nb, .func (.func tg) #[] tb]
def zrow : Value := .agg #[.nilFunc, .nilFunc, .nilFunc]
theorem undKinds : Tryz.prog.underlying 87 = some (.map 3 115) := Tryz.underlying87
theorem zeroRow (w : World) : (zeroValue 115).run Tryz.prog w = .ok zrow w := by kernel_rfl
/-- The map of what kinds ask. -/
def KindsAt (W : World) (mb : Nat) : Prop := ∃ (D : DataW Value) (n : Nat), W.ownsMap Tryz.prog 3 RV mb n D ∧ ∀ k : Int, Maps.has D (.int .i64 k) = kindOk k ∧
  (kindOk k = true → ∃ pg pb ng nb tg tb, RowOk W k pg pb ng nb tg tb ∧ D.atKey (.int .i64 k) (.held zrow) = .held (rowV pg pb ng nb tg tb))
theorem RowOk.later {W X : World} {k : Int} {pg ng tg : Nat} {pb nb tb : Array Value} (h : RowOk W k pg pb ng nb tg tb) (hb : Below W.heap.size W X) : RowOk X k pg pb ng nb tg tb :=
  ⟨h.ep, h.en, h.et, h.cp, h.cn, fun Y s hY hs => h.ct Y s (hb.trans (hY.mono hb.size)) hs⟩
theorem KindsAt.later {W X : World} {mb : Nat} (h : KindsAt W mb) (hb : Below W.heap.size W X) : KindsAt X mb := by
  obtain ⟨D, n, h1, h2⟩ := h
  refine ⟨D, n, h1.kept (row := none) ⟨hb.os, hb.tape, hb.output, hb.size, fun k hk _ => hb.block k hk⟩ (by simp), fun k => ⟨(h2 k).1, fun hk => ?_⟩⟩
  obtain ⟨pg, pb, ng, nb, tg, tb, h3, h4⟩ := (h2 k).2 hk
  exact ⟨pg, pb, ng, nb, tg, tb, h3.later hb, h4⟩
theorem KindsAt.look {W : World} {mb : Nat} (h : KindsAt W mb) (k : Int) (hk : (Lit.int .i64 k).wf = true) :
    (kindOk k = false ∧ (Instr.lookup 87 (.map (some mb)) (.int .i64 k) true).run Tryz.prog W = .ok (.tuple #[zrow, .bool false]) W) ∨
    (kindOk k = true ∧ ∃ pg pb ng nb tg tb, RowOk W k pg pb ng nb tg tb ∧ (Instr.lookup 87 (.map (some mb)) (.int .i64 k) true).run Tryz.prog W = .ok (.tuple #[rowV pg pb ng nb tg tb, .bool true]) W) := by
  obtain ⟨D, n, h1, h2⟩ := h
  obtain ⟨v, ps, hrun, hv⟩ := h1.look_ok (Maps.int_keyed undI) undKinds (zeroRow W) (zd := .held zrow) (zp := []) rfl (Maps.keyOf_int_mk undI hk)
  have e1 : DataW.held v = D.atKey (.int .i64 k) (.held zrow) := by
    have := congrArg (fun x => x.map Prod.fst) hv
    simpa [RV] using this
  rw [(h2 k).1] at hrun
  cases hk2 : kindOk k with
  | false =>
    refine .inl ⟨rfl, ?_⟩
    rw [hk2] at hrun
    have h3 := (h2 k).1
    rw [hk2] at h3
    rw [Maps.atKey_of_not_has h3] at e1
    injection e1 with e1
    subst e1
    exact hrun
  | true =>
    refine .inr ⟨rfl, ?_⟩
    rw [hk2] at hrun
    obtain ⟨pg, pb, ng, nb, tg, tb, h3, h4⟩ := (h2 k).2 hk2
    rw [h4] at e1
    injection e1 with e1
    subst e1
    exact ⟨pg, pb, ng, nb, tg, tb, h3, hrun⟩
/-- A closure's list of texts. -/
def Clo (w : World) (c : Nat) (l : List Nam) : Prop := ∃ v, w.heap[c]? = some (.cells #[v] 22 (0, 0)) ∧ Strs w v l
theorem Clo.later {w w' : World} {c : Nat} {l : List Nam} (h : Clo w c l) (hb : Below w.heap.size w w') : Clo w' c l := by
  obtain ⟨v, h1, h2⟩ := h
  exact ⟨v, (hb.block _ (lt_of_some h1)).trans h1, h2.below hb (Nat.le_refl _)⟩
theorem Clo.ins {w w' : World} {c mb n : Nat} {l : List Nam} {D : DataW Value} (h : Clo w c l) (ho : w.ownsMap Tryz.prog 3 RV mb n D) (hg : w.grownBy w' (some mb)) : Clo w' c l := by
  obtain ⟨v, h1, h2⟩ := h
  obtain ⟨es, ck, hm, _⟩ := ho
  refine ⟨v, (hg.block c (lt_of_some h1) (fun e => ?_)).trans h1, Row.same (by omega) h2 (fun hn b hb hl => hg.block b hl (fun e => ?_))⟩
  · injection e with e
    rw [e, hm] at h1
    cases h1
  · injection e with e
    exact row_map (by omega) h2 hn hm hb e
theorem Clo.made {w : World} (l : List Nam) (hl : l.length ≤ 1000) : Clo ((w.alloc (.cells (strsOf l).toArray 9)).alloc (.cells #[.slice (some ⟨w.heap.size, 0, none⟩) l.length l.length] 22)) (w.alloc (.cells (strsOf l).toArray 9)).heap.size l :=
  ⟨_, heap_alloc_new _ _, (strs_lit w l hl).below (ba (b0 _) _) (Nat.le_refl _)⟩
theorem atI {D : DataW Value} (hD : Maps.IsMap D) (a b : Int) (d z : DataW Value) : (D.put (.int .i64 a) d).atKey (.int .i64 b) z = if b = a then d else D.atKey (.int .i64 b) z := by
  by_cases e : b = a
  · subst e; rw [if_pos rfl]; exact Maps.atKey_put_same hD (by simp [WideAt.IsKeyLit]) d z
  · rw [if_neg e]; exact Maps.atKey_put_other (fun q => e (by injection q)) d z
theorem hasI {D : DataW Value} (hD : Maps.IsMap D) (a b : Int) (d : DataW Value) : Maps.has (D.put (.int .i64 a) d) (.int .i64 b) = (decide (b = a) || Maps.has D (.int .i64 b)) := by
  by_cases e : b = a
  · subst e; rw [Maps.has_put_same hD (by simp [WideAt.IsKeyLit]) d]; simp
  · rw [Maps.has_put_other (fun q => e (by injection q)) d]; simp [e]
def kindsD (c1 c2 c3 c4 : Nat) : DataW Value := (((((((((((((((((((((DataW.map [] : DataW Value).put (.int .i64 0) (.held (rowV 89 #[] 90 #[] 91 #[]))).put (.int .i64 1) (.held (rowV 89 #[] 90 #[] 92 #[]))).put (.int .i64 2) (.held (rowV 89 #[] 90 #[] 130 #[.pointer (some ⟨c1, 0, none⟩)]))).put (.int .i64 3) (.held (rowV 89 #[] 90 #[] 94 #[]))).put (.int .i64 4) (.held (rowV 95 #[] 90 #[] 96 #[]))).put (.int .i64 5) (.held (rowV 97 #[] 90 #[] 130 #[.pointer (some ⟨c2, 0, none⟩)]))).put (.int .i64 6) (.held (rowV 98 #[] 90 #[] 96 #[]))).put (.int .i64 7) (.held (rowV 97 #[] 90 #[] 96 #[]))).put (.int .i64 8) (.held (rowV 95 #[] 90 #[] 94 #[]))).put (.int .i64 9) (.held (rowV 97 #[] 90 #[] 96 #[]))).put (.int .i64 10) (.held (rowV 99 #[] 90 #[] 96 #[]))).put (.int .i64 11) (.held (rowV 98 #[] 90 #[] 96 #[]))).put (.int .i64 12) (.held (rowV 97 #[] 90 #[] 94 #[]))).put (.int .i64 13) (.held (rowV 97 #[] 90 #[] 94 #[]))).put (.int .i64 14) (.held (rowV 97 #[] 90 #[] 94 #[]))).put (.int .i64 15) (.held (rowV 95 #[] 100 #[] 96 #[]))).put (.int .i64 16) (.held (rowV 101 #[] 90 #[] 96 #[]))).put (.int .i64 17) (.held (rowV 101 #[] 102 #[] 96 #[]))).put (.int .i64 18) (.held (rowV 97 #[] 90 #[] 130 #[.pointer (some ⟨c3, 0, none⟩)]))).put (.int .i64 19) (.held (rowV 95 #[] 90 #[] 130 #[.pointer (some ⟨c4, 0, none⟩)])))
theorem kindsD_has (c1 c2 c3 c4 : Nat) (k : Int) : Maps.has (kindsD c1 c2 c3 c4) (.int .i64 k) = kindOk k := by
  have hm := @Maps.isMap_empty Value
  unfold kindsD kindOk
  rw [Bool.eq_iff_iff]
  simp (maxDischargeDepth := 60) only [hasI, Maps.IsMap.put, hm, Bool.or_eq_true, decide_eq_true_eq]
  constructor
  · intro h
    have h0 : Maps.has (DataW.map [] : DataW Value) (.int .i64 k) = false := rfl
    rw [h0] at h
    simp only [Bool.false_eq_true, or_false] at h
    omega
  · intro h
    have : k = 19 ∨ k = 18 ∨ k = 17 ∨ k = 16 ∨ k = 15 ∨ k = 14 ∨ k = 13 ∨ k = 12 ∨ k = 11 ∨ k = 10 ∨ k = 9 ∨ k = 8 ∨ k = 7 ∨ k = 6 ∨ k = 5 ∨ k = 4 ∨ k = 3 ∨ k = 2 ∨ k = 1 ∨ k = 0 := by omega
    rcases this with h | h | h | h | h | h | h | h | h | h | h | h | h | h | h | h | h | h | h | h <;> simp [h]
theorem parts_eq {f : Nat → Bool} {k : Int} {pg : Nat} (h : ∀ (n : Nat) (X : World), Calls Tryz.prog pg #[.int .i64 n] X fun e w' => e = .returned (.bool (f n)) ∧ w' = X) (he : ∀ n, f n = partsOk k n) (n : Nat) (X : World) : Calls Tryz.prog pg (#[.int .i64 n] ++ #[]) X fun e w' => e = .returned (.bool (partsOk k n)) ∧ w' = X := by
  rw [← he]; exact h n X
theorem names_eq {f : Nat → Nat → Bool} {k : Int} {pg : Nat} (h : ∀ (m n : Nat) (X : World), Calls Tryz.prog pg #[.int .i64 m, .int .i64 n] X fun e w' => e = .returned (.bool (f m n)) ∧ w' = X) (he : ∀ m n, f m n = namesOk k m n) (m n : Nat) (X : World) : Calls Tryz.prog pg (#[.int .i64 m, .int .i64 n] ++ #[]) X fun e w' => e = .returned (.bool (namesOk k m n)) ∧ w' = X := by
  rw [← he]; exact h m n X
theorem text_eq {W : World} {f : Nam → Int} {k : Int} {pg : Nat} (h : ∀ (X : World) (s : Nam), Below W.heap.size W X → s.length ≤ 2000000 → Calls Tryz.prog pg #[.string (text s)] X fun e w' => e = .returned (.int .i64 (f s)) ∧ Below X.heap.size X w') (he : ∀ s, f s = txt k s) (X : World) (s : Nam) (hX : Below W.heap.size W X) (hs : s.length ≤ 2000000) : Calls Tryz.prog pg (#[.string (text s)] ++ #[]) X fun e w' => e = .returned (.int .i64 (txt k s)) ∧ Below X.heap.size X w' := by
  rw [← he]; exact h X s hX hs
theorem clo_eq {W : World} {c : Nat} {l : List Nam} {k : Int} (h : Clo W c l) (he : ∀ s, (if s ∈ l then (0 : Int) else 17) = txt k s) (X : World) (s : Nam) (hX : Below W.heap.size W X) (hs : s.length ≤ 2000000) : Calls Tryz.prog 130 (#[.string (text s)] ++ #[.pointer (some ⟨c, 0, none⟩)]) X fun e w' => e = .returned (.int .i64 (txt k s)) ∧ Below X.heap.size X w' := by
  rw [← he]
  obtain ⟨v, h1, h2⟩ := h.later hX
  exact among_any h1 h2 s
theorem kindsD_rows {W : World} (hw : Num.Fit W) {c1 c2 c3 c4 : Nat} (h1 : Clo W c1 consts) (h2 : Clo W c2 bins) (h3 : Clo W c3 spans) (h4 : Clo W c4 tests) (k : Int) (hk : kindOk k = true) : ∃ pg pb ng nb tg tb, RowOk W k pg pb ng nb tg tb ∧ (kindsD c1 c2 c3 c4).atKey (.int .i64 k) (.held zrow) = .held (rowV pg pb ng nb tg tb) := by
  have hm := @Maps.isMap_empty Value
  have h5 : k = 0 ∨ k = 1 ∨ k = 2 ∨ k = 3 ∨ k = 4 ∨ k = 5 ∨ k = 6 ∨ k = 7 ∨ k = 8 ∨ k = 9 ∨ k = 10 ∨ k = 11 ∨ k = 12 ∨ k = 13 ∨ k = 14 ∨ k = 15 ∨ k = 16 ∨ k = 17 ∨ k = 18 ∨ k = 19 := by
    unfold kindOk at hk
    have := of_decide_eq_true hk
    omega
  rcases h5 with rfl | rfl | rfl | rfl | rfl | rfl | rfl | rfl | rfl | rfl | rfl | rfl | rfl | rfl | rfl | rfl | rfl | rfl | rfl | rfl
  · exact ⟨_, _, _, _, _, _, ⟨(fun args w => enters_of Tryz.func89 (by kernel_rfl) rfl args w), (fun args w => enters_of Tryz.func90 (by kernel_rfl) rfl args w), (fun args w => enters_of Tryz.func91 (by kernel_rfl) rfl args w), parts_eq (fun n X => none_any n X) (fun n => by unfold partsOk; simp), names_eq (fun m n X => unnamed_any m _ X) (fun m n => by unfold namesOk; simp), text_eq (fun X s hX hs => form_any s hs X (hw.at hX)) (fun s => by unfold txt; simp [named])⟩, by unfold kindsD; simp (maxDischargeDepth := 60) [atI, Maps.IsMap.put, hm]⟩
  · exact ⟨_, _, _, _, _, _, ⟨(fun args w => enters_of Tryz.func89 (by kernel_rfl) rfl args w), (fun args w => enters_of Tryz.func90 (by kernel_rfl) rfl args w), (fun args w => enters_of Tryz.func92 (by kernel_rfl) rfl args w), parts_eq (fun n X => none_any n X) (fun n => by unfold partsOk; simp), names_eq (fun m n X => unnamed_any m _ X) (fun m n => by unfold namesOk; simp), text_eq (fun X s hX hs => characters_any s hs X) (fun s => by unfold txt; simp [named])⟩, by unfold kindsD; simp (maxDischargeDepth := 60) [atI, Maps.IsMap.put, hm]⟩
  · exact ⟨_, _, _, _, _, _, ⟨(fun args w => enters_of Tryz.func89 (by kernel_rfl) rfl args w), (fun args w => enters_of Tryz.func90 (by kernel_rfl) rfl args w), (fun args w => enters_of Tryz.func130 (by kernel_rfl) rfl args w), parts_eq (fun n X => none_any n X) (fun n => by unfold partsOk; simp), names_eq (fun m n X => unnamed_any m _ X) (fun m n => by unfold namesOk; simp), clo_eq h1 (fun s => by unfold txt; simp)⟩, by unfold kindsD; simp (maxDischargeDepth := 60) [atI, Maps.IsMap.put, hm]⟩
  · exact ⟨_, _, _, _, _, _, ⟨(fun args w => enters_of Tryz.func89 (by kernel_rfl) rfl args w), (fun args w => enters_of Tryz.func90 (by kernel_rfl) rfl args w), (fun args w => enters_of Tryz.func94 (by kernel_rfl) rfl args w), parts_eq (fun n X => none_any n X) (fun n => by unfold partsOk; simp), names_eq (fun m n X => unnamed_any m _ X) (fun m n => by unfold namesOk; simp), text_eq (fun X s hX hs => name_any s hs X) (fun s => by unfold txt; simp [named])⟩, by unfold kindsD; simp (maxDischargeDepth := 60) [atI, Maps.IsMap.put, hm]⟩
  · exact ⟨_, _, _, _, _, _, ⟨(fun args w => enters_of Tryz.func95 (by kernel_rfl) rfl args w), (fun args w => enters_of Tryz.func90 (by kernel_rfl) rfl args w), (fun args w => enters_of Tryz.func96 (by kernel_rfl) rfl args w), parts_eq (fun n X => one_any n X) (fun n => by unfold partsOk; simp), names_eq (fun m n X => unnamed_any m _ X) (fun m n => by unfold namesOk; simp), text_eq (fun X s hX hs => empty_any s X) (fun s => by unfold txt; simp [named])⟩, by unfold kindsD; simp (maxDischargeDepth := 60) [atI, Maps.IsMap.put, hm]⟩
  · exact ⟨_, _, _, _, _, _, ⟨(fun args w => enters_of Tryz.func97 (by kernel_rfl) rfl args w), (fun args w => enters_of Tryz.func90 (by kernel_rfl) rfl args w), (fun args w => enters_of Tryz.func130 (by kernel_rfl) rfl args w), parts_eq (fun n X => two_any n X) (fun n => by unfold partsOk; simp), names_eq (fun m n X => unnamed_any m _ X) (fun m n => by unfold namesOk; simp), clo_eq h2 (fun s => by unfold txt; simp)⟩, by unfold kindsD; simp (maxDischargeDepth := 60) [atI, Maps.IsMap.put, hm]⟩
  · exact ⟨_, _, _, _, _, _, ⟨(fun args w => enters_of Tryz.func98 (by kernel_rfl) rfl args w), (fun args w => enters_of Tryz.func90 (by kernel_rfl) rfl args w), (fun args w => enters_of Tryz.func96 (by kernel_rfl) rfl args w), parts_eq (fun n X => three_any n X) (fun n => by unfold partsOk; simp), names_eq (fun m n X => unnamed_any m _ X) (fun m n => by unfold namesOk; simp), text_eq (fun X s hX hs => empty_any s X) (fun s => by unfold txt; simp [named])⟩, by unfold kindsD; simp (maxDischargeDepth := 60) [atI, Maps.IsMap.put, hm]⟩
  · exact ⟨_, _, _, _, _, _, ⟨(fun args w => enters_of Tryz.func97 (by kernel_rfl) rfl args w), (fun args w => enters_of Tryz.func90 (by kernel_rfl) rfl args w), (fun args w => enters_of Tryz.func96 (by kernel_rfl) rfl args w), parts_eq (fun n X => two_any n X) (fun n => by unfold partsOk; simp), names_eq (fun m n X => unnamed_any m _ X) (fun m n => by unfold namesOk; simp), text_eq (fun X s hX hs => empty_any s X) (fun s => by unfold txt; simp [named])⟩, by unfold kindsD; simp (maxDischargeDepth := 60) [atI, Maps.IsMap.put, hm]⟩
  · exact ⟨_, _, _, _, _, _, ⟨(fun args w => enters_of Tryz.func95 (by kernel_rfl) rfl args w), (fun args w => enters_of Tryz.func90 (by kernel_rfl) rfl args w), (fun args w => enters_of Tryz.func94 (by kernel_rfl) rfl args w), parts_eq (fun n X => one_any n X) (fun n => by unfold partsOk; simp), names_eq (fun m n X => unnamed_any m _ X) (fun m n => by unfold namesOk; simp), text_eq (fun X s hX hs => name_any s hs X) (fun s => by unfold txt; simp [named])⟩, by unfold kindsD; simp (maxDischargeDepth := 60) [atI, Maps.IsMap.put, hm]⟩
  · exact ⟨_, _, _, _, _, _, ⟨(fun args w => enters_of Tryz.func97 (by kernel_rfl) rfl args w), (fun args w => enters_of Tryz.func90 (by kernel_rfl) rfl args w), (fun args w => enters_of Tryz.func96 (by kernel_rfl) rfl args w), parts_eq (fun n X => two_any n X) (fun n => by unfold partsOk; simp), names_eq (fun m n X => unnamed_any m _ X) (fun m n => by unfold namesOk; simp), text_eq (fun X s hX hs => empty_any s X) (fun s => by unfold txt; simp [named])⟩, by unfold kindsD; simp (maxDischargeDepth := 60) [atI, Maps.IsMap.put, hm]⟩
  · exact ⟨_, _, _, _, _, _, ⟨(fun args w => enters_of Tryz.func99 (by kernel_rfl) rfl args w), (fun args w => enters_of Tryz.func90 (by kernel_rfl) rfl args w), (fun args w => enters_of Tryz.func96 (by kernel_rfl) rfl args w), parts_eq (fun n X => some_any n X) (fun n => by unfold partsOk; simp), names_eq (fun m n X => unnamed_any m _ X) (fun m n => by unfold namesOk; simp), text_eq (fun X s hX hs => empty_any s X) (fun s => by unfold txt; simp [named])⟩, by unfold kindsD; simp (maxDischargeDepth := 60) [atI, Maps.IsMap.put, hm]⟩
  · exact ⟨_, _, _, _, _, _, ⟨(fun args w => enters_of Tryz.func98 (by kernel_rfl) rfl args w), (fun args w => enters_of Tryz.func90 (by kernel_rfl) rfl args w), (fun args w => enters_of Tryz.func96 (by kernel_rfl) rfl args w), parts_eq (fun n X => three_any n X) (fun n => by unfold partsOk; simp), names_eq (fun m n X => unnamed_any m _ X) (fun m n => by unfold namesOk; simp), text_eq (fun X s hX hs => empty_any s X) (fun s => by unfold txt; simp [named])⟩, by unfold kindsD; simp (maxDischargeDepth := 60) [atI, Maps.IsMap.put, hm]⟩
  · exact ⟨_, _, _, _, _, _, ⟨(fun args w => enters_of Tryz.func97 (by kernel_rfl) rfl args w), (fun args w => enters_of Tryz.func90 (by kernel_rfl) rfl args w), (fun args w => enters_of Tryz.func94 (by kernel_rfl) rfl args w), parts_eq (fun n X => two_any n X) (fun n => by unfold partsOk; simp), names_eq (fun m n X => unnamed_any m _ X) (fun m n => by unfold namesOk; simp), text_eq (fun X s hX hs => name_any s hs X) (fun s => by unfold txt; simp [named])⟩, by unfold kindsD; simp (maxDischargeDepth := 60) [atI, Maps.IsMap.put, hm]⟩
  · exact ⟨_, _, _, _, _, _, ⟨(fun args w => enters_of Tryz.func97 (by kernel_rfl) rfl args w), (fun args w => enters_of Tryz.func90 (by kernel_rfl) rfl args w), (fun args w => enters_of Tryz.func94 (by kernel_rfl) rfl args w), parts_eq (fun n X => two_any n X) (fun n => by unfold partsOk; simp), names_eq (fun m n X => unnamed_any m _ X) (fun m n => by unfold namesOk; simp), text_eq (fun X s hX hs => name_any s hs X) (fun s => by unfold txt; simp [named])⟩, by unfold kindsD; simp (maxDischargeDepth := 60) [atI, Maps.IsMap.put, hm]⟩
  · exact ⟨_, _, _, _, _, _, ⟨(fun args w => enters_of Tryz.func97 (by kernel_rfl) rfl args w), (fun args w => enters_of Tryz.func90 (by kernel_rfl) rfl args w), (fun args w => enters_of Tryz.func94 (by kernel_rfl) rfl args w), parts_eq (fun n X => two_any n X) (fun n => by unfold partsOk; simp), names_eq (fun m n X => unnamed_any m _ X) (fun m n => by unfold namesOk; simp), text_eq (fun X s hX hs => name_any s hs X) (fun s => by unfold txt; simp [named])⟩, by unfold kindsD; simp (maxDischargeDepth := 60) [atI, Maps.IsMap.put, hm]⟩
  · exact ⟨_, _, _, _, _, _, ⟨(fun args w => enters_of Tryz.func95 (by kernel_rfl) rfl args w), (fun args w => enters_of Tryz.func100 (by kernel_rfl) rfl args w), (fun args w => enters_of Tryz.func96 (by kernel_rfl) rfl args w), parts_eq (fun n X => one_any n X) (fun n => by unfold partsOk; simp), names_eq (fun m n X => named_any _ _ X) (fun m n => by unfold namesOk; simp), text_eq (fun X s hX hs => empty_any s X) (fun s => by unfold txt; simp [named])⟩, by unfold kindsD; simp (maxDischargeDepth := 60) [atI, Maps.IsMap.put, hm]⟩
  · exact ⟨_, _, _, _, _, _, ⟨(fun args w => enters_of Tryz.func101 (by kernel_rfl) rfl args w), (fun args w => enters_of Tryz.func90 (by kernel_rfl) rfl args w), (fun args w => enters_of Tryz.func96 (by kernel_rfl) rfl args w), parts_eq (fun n X => every_any _ X) (fun n => by unfold partsOk; simp), names_eq (fun m n X => unnamed_any m _ X) (fun m n => by unfold namesOk; simp), text_eq (fun X s hX hs => empty_any s X) (fun s => by unfold txt; simp [named])⟩, by unfold kindsD; simp (maxDischargeDepth := 60) [atI, Maps.IsMap.put, hm]⟩
  · exact ⟨_, _, _, _, _, _, ⟨(fun args w => enters_of Tryz.func101 (by kernel_rfl) rfl args w), (fun args w => enters_of Tryz.func102 (by kernel_rfl) rfl args w), (fun args w => enters_of Tryz.func96 (by kernel_rfl) rfl args w), parts_eq (fun n X => every_any _ X) (fun n => by unfold partsOk; simp), names_eq (fun m n X => allNamed_any m n X) (fun m n => by unfold namesOk; simp), text_eq (fun X s hX hs => empty_any s X) (fun s => by unfold txt; simp [named])⟩, by unfold kindsD; simp (maxDischargeDepth := 60) [atI, Maps.IsMap.put, hm]⟩
  · exact ⟨_, _, _, _, _, _, ⟨(fun args w => enters_of Tryz.func97 (by kernel_rfl) rfl args w), (fun args w => enters_of Tryz.func90 (by kernel_rfl) rfl args w), (fun args w => enters_of Tryz.func130 (by kernel_rfl) rfl args w), parts_eq (fun n X => two_any n X) (fun n => by unfold partsOk; simp), names_eq (fun m n X => unnamed_any m _ X) (fun m n => by unfold namesOk; simp), clo_eq h3 (fun s => by unfold txt; simp)⟩, by unfold kindsD; simp (maxDischargeDepth := 60) [atI, Maps.IsMap.put, hm]⟩
  · exact ⟨_, _, _, _, _, _, ⟨(fun args w => enters_of Tryz.func95 (by kernel_rfl) rfl args w), (fun args w => enters_of Tryz.func90 (by kernel_rfl) rfl args w), (fun args w => enters_of Tryz.func130 (by kernel_rfl) rfl args w), parts_eq (fun n X => one_any n X) (fun n => by unfold partsOk; simp), names_eq (fun m n X => unnamed_any m _ X) (fun m n => by unfold namesOk; simp), clo_eq h4 (fun s => by unfold txt; simp)⟩, by unfold kindsD; simp (maxDischargeDepth := 60) [atI, Maps.IsMap.put, hm]⟩
theorem Clo.of {w wx : World} {l : List Nam} (h : wx = (w.alloc (.cells (strsOf l).toArray 9)).alloc (.cells #[.slice (some ⟨w.heap.size, 0, none⟩) l.length l.length] 22)) (hl : l.length ≤ 1000) : Clo wx (w.heap.size + 1) l := by
  have := Clo.made (w := w) l hl
  rw [World.size_alloc] at this
  rw [h]; exact this
theorem Clo.two {w wx : World} {c : Nat} {l : List Nam} {o1 o2 : Obj} (h : Clo w c l) (hx : wx = (w.alloc o1).alloc o2) : Clo wx c l := by rw [hx]; exact h.later (ba (ba (b0 w) _) _)
theorem own_two {w wx : World} {mb n : Nat} {D : DataW Value} {o1 o2 : Obj} (h : w.ownsMap Tryz.prog 3 RV mb n D) (hx : wx = (w.alloc o1).alloc o2) : wx.ownsMap Tryz.prog 3 RV mb n D := by rw [hx]; exact (h.alloc _).alloc _
theorem below_two {w0 w wx : World} {o1 o2 : Obj} (h : Below w0.heap.size w0 w) (hx : wx = (w.alloc o1).alloc o2) : Below w0.heap.size w0 wx := by rw [hx]; exact ba (ba h _) _
theorem size_two {k : Nat} {w wx : World} {o1 o2 : Obj} (h : k < w.heap.size) (hx : wx = (w.alloc o1).alloc o2) : k < wx.heap.size := by rw [hx]; simp; omega
set_option maxHeartbeats 8000000 in
theorem rows_any (w : World) (hw : Num.Fit w) : Calls Tryz.prog 50 #[] w fun e w' => ∃ mb, e = .returned (.map (some mb)) ∧ KindsAt w' mb ∧ Below w.heap.size w w' := by
  have hmm := @run_makeMap Tryz.prog
  have hown := World.ownsMap_made (H := Value) w Tryz.prog 3 RV
  have hB := ba (b0 w) (.map #[] 0)
  have hsz : w.heap.size < (w.alloc (.map #[] 0)).heap.size := by simp
  have HW := hid hw
  clear hw
  go_enter Tryz.func50, Tryz.ntmps50
  go_wp2_with (refine wpList_insert_own _ rfl _ _ _ 87 rfl 3 115 (Maps.int_keyed undI) undKinds RV _ _ _ rfl hown (by unfold maxLen; omega) _ _ _ rfl rfl (Maps.keyOf_int_mk undI (by decide)) _ [] rfl ?_; intro w1 hown1 hg1; replace hB := hB.grown hg1 hB.size (fun k e => by cases e; exact Nat.le_refl _); replace hsz := Nat.lt_of_lt_of_le hsz hg1.size;  clear hown; have hown := hown1; clear hown1 hg1)
  refine (oneOf_any _ _ ⟨_, _, _, rfl⟩).mono ?_
  rintro e wx ⟨rfl, hwx⟩
  have hC1 := Clo.of (l := consts) hwx (by decide)
  replace hown := own_two hown hwx
  replace hB := below_two hB hwx
  replace hsz := size_two hsz hwx
  clear hwx
  go_wp2_with (refine wpList_insert_own _ rfl _ _ _ 87 rfl 3 115 (Maps.int_keyed undI) undKinds RV _ _ _ rfl hown (by unfold maxLen; omega) _ _ _ rfl rfl (Maps.keyOf_int_mk undI (by decide)) _ [] rfl ?_; intro w1 hown1 hg1; replace hB := hB.grown hg1 hB.size (fun k e => by cases e; exact Nat.le_refl _); replace hsz := Nat.lt_of_lt_of_le hsz hg1.size; replace hC1 := hC1.ins hown hg1;  clear hown; have hown := hown1; clear hown1 hg1)
  refine (oneOf_any _ _ ⟨_, _, _, rfl⟩).mono ?_
  rintro e wx ⟨rfl, hwx⟩
  have hC2 := Clo.of (l := bins) hwx (by decide)
  replace hC1 := hC1.two hwx
  replace hown := own_two hown hwx
  replace hB := below_two hB hwx
  replace hsz := size_two hsz hwx
  clear hwx
  go_wp2_with (refine wpList_insert_own _ rfl _ _ _ 87 rfl 3 115 (Maps.int_keyed undI) undKinds RV _ _ _ rfl hown (by unfold maxLen; omega) _ _ _ rfl rfl (Maps.keyOf_int_mk undI (by decide)) _ [] rfl ?_; intro w1 hown1 hg1; replace hB := hB.grown hg1 hB.size (fun k e => by cases e; exact Nat.le_refl _); replace hsz := Nat.lt_of_lt_of_le hsz hg1.size; replace hC1 := hC1.ins hown hg1; replace hC2 := hC2.ins hown hg1;  clear hown; have hown := hown1; clear hown1 hg1)
  refine (oneOf_any _ _ ⟨_, _, _, rfl⟩).mono ?_
  rintro e wx ⟨rfl, hwx⟩
  have hC3 := Clo.of (l := spans) hwx (by decide)
  replace hC1 := hC1.two hwx
  replace hC2 := hC2.two hwx
  replace hown := own_two hown hwx
  replace hB := below_two hB hwx
  replace hsz := size_two hsz hwx
  clear hwx
  go_wp2_with (refine wpList_insert_own _ rfl _ _ _ 87 rfl 3 115 (Maps.int_keyed undI) undKinds RV _ _ _ rfl hown (by unfold maxLen; omega) _ _ _ rfl rfl (Maps.keyOf_int_mk undI (by decide)) _ [] rfl ?_; intro w1 hown1 hg1; replace hB := hB.grown hg1 hB.size (fun k e => by cases e; exact Nat.le_refl _); replace hsz := Nat.lt_of_lt_of_le hsz hg1.size; replace hC1 := hC1.ins hown hg1; replace hC2 := hC2.ins hown hg1; replace hC3 := hC3.ins hown hg1;  clear hown; have hown := hown1; clear hown1 hg1)
  refine (oneOf_any _ _ ⟨_, _, _, rfl⟩).mono ?_
  rintro e wx ⟨rfl, hwx⟩
  have hC4 := Clo.of (l := tests) hwx (by decide)
  replace hC1 := hC1.two hwx
  replace hC2 := hC2.two hwx
  replace hC3 := hC3.two hwx
  replace hown := own_two hown hwx
  replace hB := below_two hB hwx
  replace hsz := size_two hsz hwx
  clear hwx
  go_wp2_with (refine wpList_insert_own _ rfl _ _ _ 87 rfl 3 115 (Maps.int_keyed undI) undKinds RV _ _ _ rfl hown (by unfold maxLen; omega) _ _ _ rfl rfl (Maps.keyOf_int_mk undI (by decide)) _ [] rfl ?_; intro w1 hown1 hg1; replace hB := hB.grown hg1 hB.size (fun k e => by cases e; exact Nat.le_refl _); replace hsz := Nat.lt_of_lt_of_le hsz hg1.size; replace hC1 := hC1.ins hown hg1; replace hC2 := hC2.ins hown hg1; replace hC3 := hC3.ins hown hg1; replace hC4 := hC4.ins hown hg1;  clear hown; have hown := hown1; clear hown1 hg1)
  go_ret
  exact ⟨_, rfl, ⟨kindsD _ _ _ _, _, hown, fun k => ⟨kindsD_has _ _ _ _ k, kindsD_rows (HW.out.at hB) hC1 hC2 hC3 hC4 k⟩⟩, hB⟩
end Go.Proofs.YtkmdclfkmmlloaaGreatDoor.Xp
