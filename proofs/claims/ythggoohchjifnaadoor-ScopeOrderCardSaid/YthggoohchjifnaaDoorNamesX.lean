/- Layer 2: contracts of SplitSeq, Words and Right. -/
import Derived.Test.YthggoohchjifnaaDoorNamesW
import Derived.Test.YthggoohchjifnaaDoorNamesK
import Derived.Test.YthggoohchjifnaaDoorNamesQ
import Derived.Test.YthggoohchjifnaaDoorNamesU
import Derived.Maps.AppendAt
import Derived.Maps.OwnIn
set_option linter.unusedVariables false
set_option linter.unusedSimpArgs false
namespace Go.Proofs.YthggoohchjifnaaDoor.Names
open Go Go.Proofs.YthggoohchjifnaaDoor Go.Proofs.YthggoohchjifnaaDoor.Utf Go.RowKit Go.Shelf
set_option maxRecDepth 100000
attribute [local go_sem] Oper.semAt_some

theorem loadVar_plain {P : Program} {t : TypeId} {d : TypeDesc} (ht : P.underlying t = some d) (hd : (match d with | .struct _ | .array _ _ => true | _ => false) = false) {W : World} {a : Addr} {v : Value} (hc : W.cell? a = some v) : (loadVar t a).run P W = .ok v W := by
  have h1 : (isAgg t).run P W = .ok false W := run_isAgg_plain ht hd W
  simp [loadVar, Sem.run_bind, h1, Result.andThen, hc]

/-- Two results that lie in boxes. -/
theorem results_boxes {P : Program} {fn : Func} {p q : Tmp} {t u : TypeId} (h : fn.results = #[.cell p t, .cell q u]) {tmps : Array Value} {W : World} {b c : Nat} {x y : Value}
    (hp : tmps.getD p undef = .pointer (some ⟨b, 0, none⟩)) (hq : tmps.getD q undef = .pointer (some ⟨c, 0, none⟩))
    (h1 : (loadVar t ⟨b, 0, none⟩).run P W = .ok x W) (h2 : (loadVar u ⟨c, 0, none⟩).run P W = .ok y W) : (results fn tmps).run P W = .ok (.tuple #[x, y]) W := by
  simp only [results, h]
  have hp' : tmps[p]?.getD undef = .pointer (some ⟨b, 0, none⟩) := by simpa using hp
  have hq' : tmps[q]?.getD undef = .pointer (some ⟨c, 0, none⟩) := by simpa using hq
  simp [Sem.run_bind, Result.andThen, hp', hq', asAddr, h1, h2]

theorem boxed_later {W W' : World} {B : Nat} {t : TypeId} {v : Value} (h : Boxed W B t v) (hb : Below W.heap.size W W') : Boxed W' B t v := (hb.block B h.lt).trans h

theorem splitSeq_any (l : List UInt8) (w : World) :
    Calls Tryd.prog 83 #[.string (text l), .string ⟨#[32]⟩, .int .i64 0] w fun e w' => e = .returned (.func (.func 87) #[] #[.pointer (some ⟨w.heap.size + 1, 0, none⟩), .pointer (some ⟨w.heap.size, 0, none⟩), .pointer (some ⟨w.heap.size + 2, 0, none⟩)]) ∧
      Holds w' w.heap.size l ∧ w'.heap.size = w.heap.size + 3 ∧ Below w.heap.size w w' := by
  have hmf : ∀ (fn : Fn) (first cap : Array Value) (w : World), (Instr.makeFunc fn first cap).run Tryd.prog w = .ok (.func fn first cap) w := fun _ _ _ _ => rfl
  go_enter Tryd.func83, Tryd.ntmps83
  go_wp2
  go_ret
  refine ⟨rfl, ⟨?_, ?_, ?_⟩, by simp, ?_⟩
  · exact ((Boxed.new w _ _).alloc _).alloc _
  · have h := Boxed.new (w.alloc (.cells #[.string (text l)] 9)) 9 (.string ⟨#[32]⟩)
    rw [World.size_alloc] at h
    exact h.alloc _
  · have h := Boxed.new ((w.alloc (.cells #[.string (text l)] 9)).alloc (.cells #[.string ⟨#[32]⟩] 9)) 3 (.int .i64 0)
    rw [World.size_alloc, World.size_alloc] at h
    exact h
  · exact ba (ba (ba (b0 w) _) _) _

theorem SplitSeq_any (l : List UInt8) (w : World) :
    Calls Tryd.prog 78 #[.string (text l), .string ⟨#[32]⟩] w fun e w' => e = .returned (.func (.func 87) #[] #[.pointer (some ⟨w.heap.size + 1, 0, none⟩), .pointer (some ⟨w.heap.size, 0, none⟩), .pointer (some ⟨w.heap.size + 2, 0, none⟩)]) ∧
      Holds w' w.heap.size l ∧ w'.heap.size = w.heap.size + 3 ∧ Below w.heap.size w w' := by
  go_enter Tryd.func78, Tryd.ntmps78
  go_wp2_with (go_at_call 83; refine (splitSeq_any _ _).mono ?_; rintro e w' ⟨rfl, h1, h2, h3⟩)
  go_ret
  exact ⟨rfl, h1, h2, h3⟩

set_option maxHeartbeats 4000000 in
theorem Words_in (l : List UInt8) (hl : l.length ≤ 100000) (w : World) :
    CallsIn Fence.wide 9 Tryd.prog 63 #[.string (text l)] w fun e w' => ∃ v, e = .returned (.tuple #[v, .bool (wordsO l).isSome]) ∧ Strs w' v ((wordsO l).getD []) ∧ Below w.heap.size w w' := by
  obtain ⟨i0, hi, hz0, hz1, hz2⟩ := info_parts infoS
  have hk31 : Fence.wide.fn 77 := trivial
  have hk32 : Fence.wide.fn 78 := trivial
  have hk33 : Fence.wide.fn 79 := trivial
  refine callsIn_of_wp_marks Tryd.func63 rfl trivial ?_ rfl
  simp only [Tryd.ntmps63, List.size_toArray, List.length_cons, List.length_nil, Nat.reduceAdd, Nat.reduceSub, Array.replicate_succ, Array.replicate_zero, List.push_toArray, List.append_toArray, List.nil_append, List.cons_append]
  gi_wp2_with (first
    | (gi_at_call 77; refine (callsIn_wide.2 (keywords_any _)).mono ?_; rintro e w1 ⟨mb, rfl, hm, hle, hb1⟩)
    | (gi_at_call 78; refine (callsIn_wide.2 (SplitSeq_any _ _)).mono ?_; rintro e w2 ⟨rfl, hh, hsz, hb2⟩))
  simp only [World.size_alloc] at hle hb1 hh hsz hb2
  have hmlt := hm.lt
  have hs1 : w.heap.size + 2 ≤ w1.heap.size := by have := hb1.size; simp at this; omega
  have r0 : Boxed w2 w.heap.size 22 (.slice none 0 0) := by
    have h1 : Boxed ((w.alloc (.cells #[.slice none 0 0] 22)).alloc (.cells #[.bool false] 4)) w.heap.size 22 (.slice none 0 0) := (Boxed.new w _ _).alloc _
    have h2 : Boxed w1 w.heap.size 22 (.slice none 0 0) := (hb1.block _ (by omega)).trans h1
    exact (hb2.block _ (by omega)).trans ((h2.alloc _).alloc _)
  have r1 : Boxed w2 (w.heap.size + 1) 4 (.bool false) := by
    have h1 := Boxed.new (w.alloc (.cells #[.slice none 0 0] 22)) 4 (.bool false)
    rw [World.size_alloc] at h1
    have h2 : Boxed w1 (w.heap.size + 1) 4 (.bool false) := (hb1.block _ (by omega)).trans h1
    exact (hb2.block _ (by omega)).trans ((h2.alloc _).alloc _)
  have bk : Boxed w2 w1.heap.size 93 (.map (some mb)) := (hb2.block _ (by omega)).trans ((Boxed.new w1 _ _).alloc _)
  have bw : Boxed w2 (w1.heap.size + 1) 22 (.slice none 0 0) := by
    have h1 := Boxed.new (w1.alloc (.cells #[.map (some mb)] 93)) 22 (.slice none 0 0)
    rw [World.size_alloc] at h1
    exact (hb2.block _ (by omega)).trans h1
  have hb2' : Below w1.heap.size w1 w2 := (ba (ba (b0 w1) (.cells #[.map (some mb)] 93)) (.cells #[.slice none 0 0] 22)).trans (hb2.mono (by omega))
  have hm2 : KeyMap w2 mb := hm.below hb2'
  have hbw : Below w.heap.size w w2 := (ba (ba (b0 w) (.cells #[.slice none 0 0] 22)) (.cells #[.bool false] 4)).trans ((hb1.mono (by omega)).trans (hb2'.mono (by omega)))
  have hs2 : w2.heap.size = w1.heap.size + 5 := by omega
  have hh2 : Holds w2 (w1.heap.size + 2) l := hh
  have hpl : (pieces l).length ≤ l.length + 1 := cutAt_length 32 l
  refine range_tells (F := Fence.wide) (n := 9) rfl (by omega) rfl trivial (enters_of Tryd.func87 (by kernel_rfl) rfl) (fun A B h => Turns.others h) (seq_tells 8 (by omega) (w1.heap.size + 2) l (by omega) w2 hh2 (by omega))
    Three.trans (fun W l o o' h _ _ _ => Three.put W l o' (by omega)) (b0 w2) rfl
    (fun k W => (∃ v, Boxed W (w1.heap.size + 1) 22 v ∧ W.ownsRow w2.heap.size 9 1 v k (strsOf ((pieces l).take k)) ∧ k ≤ (pieces l).length) ∧ Boxed W w.heap.size 22 (.slice none 0 0) ∧ Boxed W (w.heap.size + 1) 4 (.bool false) ∧
      Boxed W w1.heap.size 93 (.map (some mb)) ∧ KeyMap W mb ∧ ((pieces l).take k).all wordB = true ∧ w2.heap.size ≤ W.heap.size ∧ Below w.heap.size w W)
    (fun c k W => c = .ret ∧ wordsO l = none ∧ Boxed W w.heap.size 22 (.slice none 0 0) ∧ Boxed W (w.heap.size + 1) 4 (.bool false) ∧ w2.heap.size ≤ W.heap.size ∧ Below w.heap.size w W)
    ?hI ?hIx ?hIT ?hIxT ?h0
    (fun x => { tmps := #[.string (text l), undef, .pointer (some ⟨w.heap.size, 0, none⟩), .pointer (some ⟨w.heap.size + 1, 0, none⟩), .pointer (some ⟨w1.heap.size, 0, none⟩), .pointer (some ⟨w1.heap.size + 1, 0, none⟩), .string (text x), .map (some mb), .string (text l), .func (.func 87) #[] #[.pointer (some ⟨w1.heap.size + 2 + 1, 0, none⟩), .pointer (some ⟨w1.heap.size + 2, 0, none⟩), .pointer (some ⟨w1.heap.size + 2 + 2, 0, none⟩)], .string (text x), undef, undef, undef, undef, undef, undef, undef, undef, undef, undef, undef, undef, undef], defers := [] })
    ?assign ?body ?done ?stop
  case h0 => exact ⟨⟨_, bw, World.ownsRow_nil _ _ _ _, Nat.zero_le _⟩, r0, r1, bk, hm2, rfl, Nat.le_refl _, hbw⟩
  case assign =>
    intro lp x W K hK
    gi_wp2
    exact hK
  case hI =>
    rintro k A B row ⟨h1, a0, a1, ak, am, hall, hs, hb⟩ hg hr
    have far : ∀ b, b < w2.heap.size → some b ≠ row := fun b hlt e => by have := (hr _ e.symm).1; omega
    exact ⟨holdsRow_own w2.heap.size (w1.heap.size + 1) 22 9 1 (fun k : Nat => k) (fun k => strsOf ((pieces l).take k)) (fun k v => k ≤ (pieces l).length) k A B row h1 hg (fun r e => (hr r e).2),
      a0.kept hg (far _ (by omega)), a1.kept hg (far _ (by omega)), ak.kept hg (far _ (by omega)), World.ownsMap.kept am hg (far _ (by omega)), hall, Nat.le_trans hs hg.size, hb.grown hg hb.size (fun j e => by have := (hr _ e).1; omega)⟩
  case hIx =>
    rintro c k A B row ⟨hc, hw, a0, a1, hs, hb⟩ hg hr
    have far : ∀ b, b < w2.heap.size → some b ≠ row := fun b hlt e => by have := (hr _ e.symm).1; omega
    exact ⟨hc, hw, a0.kept hg (far _ (by omega)), a1.kept hg (far _ (by omega)), Nat.le_trans hs hg.size, hb.grown hg hb.size (fun j e => by have := (hr _ e).1; omega)⟩
  case hIT =>
    rintro k A B ⟨⟨v, hv, ho, hk⟩, a0, a1, ak, am, hall, hs, hb⟩ ⟨hg, _⟩
    exact ⟨⟨v, hv.kept hg (fun e => by have := Option.some.inj e; omega), ho.kept hg (.inr (fun e => by have := (ho.lt _ e).1; omega)), hk⟩, a0.kept hg (fun e => by have := Option.some.inj e; omega), a1.kept hg (fun e => by have := Option.some.inj e; omega), ak.kept hg (fun e => by have := Option.some.inj e; omega),
      World.ownsMap.kept am hg (fun e => by have := Option.some.inj e; omega), hall, Nat.le_trans hs hg.size, hb.grown hg hb.size (fun j e => by have := Option.some.inj e; omega)⟩
  case hIxT =>
    rintro c k A B ⟨hc, hw, a0, a1, hs, hb⟩ ⟨hg, _⟩
    exact ⟨hc, hw, a0.kept hg (fun e => by have := Option.some.inj e; omega), a1.kept hg (fun e => by have := Option.some.inj e; omega), Nat.le_trans hs hg.size, hb.grown hg hb.size (fun j e => by have := Option.some.inj e; omega)⟩
  case body =>
    rintro lp k x W hx ⟨⟨v, hv, ho, hk⟩, a0, a1, ak, am, hall, hs, hb⟩
    have hxl := cutAt_piece 32 l x (List.mem_of_getElem? hx)
    have hkl := (List.getElem?_eq_some_iff.1 hx).1
    have hno : wordB x = false → wordsO l = none := fun h => by
      have : (pieces l).all wordB = false := by rw [List.all_eq_false]; exact ⟨x, List.mem_of_getElem? hx, by simp [h]⟩
      unfold wordsO; rw [this]; rfl
    have hwy := wordy_any x (by omega) W
    cases hwd : wordyB x
    · rw [hwd] at hwy
      have HN := hid (hno (by unfold wordB; rw [hwd]; rfl))
      have HW := hid hwy
      have A0 := hid a0
      have A1 := hid a1
      have HB := hid hb
      clear hno hwy hwd hb a0 a1 hv ho ak am
      gi_wp2_with (gi_at_call 79; refine (CallsIn.inRound lp (callsIn_wide.2 HW.out)).mono ?_; rintro e w3 ⟨rfl, hb3⟩; have b0' := boxed_later A0.out hb3; have b1' := boxed_later A1.out hb3; have c0 := b0'.cell; have c1 := (b1'.other (B' := w.heap.size) (by omega) (.slice none 0 0)).cell; have f0 := b0'.frozen; have f1 := (b1'.other (B' := w.heap.size) (by omega) (.slice none 0 0)).frozen)
      have hk3 := ((others_of_below hb3).trans (KeepsOthers.setCell _ ⟨w.heap.size, 0, none⟩ (.slice none 0 0))).trans (KeepsOthers.setCell _ ⟨w.heap.size + 1, 0, none⟩ (.bool false))
      exact ⟨hk3, rfl, HN.out, (b0'.set _).other (by omega) _, (b1'.other (by omega) _).set _, Nat.le_trans hs hk3.size, ((HB.out.trans (hb3.mono HB.out.size)).setCell (p := ⟨w.heap.size, 0, none⟩) (Nat.le_refl _) _).setCell (p := ⟨w.heap.size + 1, 0, none⟩) (by simp) _⟩
    · rw [hwd] at hwy
      have HW := hid hwy
      have A0 := hid a0
      have A1 := hid a1
      have AK := hid ak
      have AM := hid am
      have HB := hid hb
      have HKL := hid (fun W (h : KeyMap W mb) => key_lookup h x (by omega))
      cases hkb : keyB x
      · have hw : wordB x = true := by unfold wordB; rw [hwd, hkb]; rfl
        have hst : ((pieces l).take (k + 1)).all wordB = true := by
          rw [List.take_add_one, hx, List.all_append, hall]
          simp [hw]
        have htk : strsOf ((pieces l).take (k + 1)) = strsOf ((pieces l).take k) ++ [.string (text x)] := by
          rw [List.take_add_one, hx, strsOf_append]; rfl
        have HS := hid hst
        have HT := hid htk
        rw [hkb] at HKL
        have HV := hid hv
        have HO := hid ho
        clear hno hwy hwd hb a0 a1 hv ho ak am hkb hw hst htk hall
        have hklen : k ≤ 100000 := by omega
        gi_wp2_with (first
          | (gi_at_call 79; refine (CallsIn.inRound lp (callsIn_wide.2 HW.out)).mono ?_; rintro e w3 ⟨rfl, hb3⟩; have k3 := boxed_later AK.out hb3; have ck := k3.cell; have hlk := HKL.out _ (AM.out.below hb3); have hv3 := boxed_later HV.out hb3; have cv := hv3.cell; have ho3 := owns_later HO.out hb3)
          | (gi_at_builtin; refine wpListIn_append_own _ rfl _ _ 22 rfl w2.heap.size 9 i0 (.string ByteArray.empty) 1 16 underS hi hz0 hz1 hz2 rfl (by decide) _ _ _ rfl (ho3.alloc _) ⟨w3.heap.size, 0, none⟩ 1 1 [.string (text x)] rfl rfl (cell_one_new _ _ _) (by simp [Value.oneCell']) (by unfold maxLen; omega) (by omega) (by have := hb3.size; simp; omega) ?_; intro v' w4 hown' hgrow _; obtain ⟨g', cap', rfl⟩ := ownsRow_succ hown'; have hv4 : Boxed w4 (w1.heap.size + 1) 22 v := (hv3.alloc _).kept hgrow (hv3.not_row (by decide) ho3); have hc4 := hv4.cell; have hf4 := hv4.frozen))
        clear hlk ck cv hc4 hf4
        have far : ∀ B, B < w2.heap.size → some B ≠ v.ownBlock := fun B hlt e => by have := (ho3.lt _ e.symm).1; omega
        have hs3 := hb3.size
        have same : ∀ j, j < w2.heap.size → j ≠ w1.heap.size + 1 → (w4.setCell ⟨w1.heap.size + 1, 0, none⟩ (.slice (some ⟨g', 0, none⟩) (k + 1) cap')).heap[j]? = W.heap[j]? := fun j h1 h2 =>
          (Below.heap_setCell w4 ⟨w1.heap.size + 1, 0, none⟩ _ j (by simpa using h2)).trans ((hgrow.block j (by simp; omega) (far j h1)).trans ((Below.heap_alloc w3 _ j (by omega)).trans (hb3.block j (by omega))))
        have hk4 : KeepsOthers W w4 := ((others_of_below hb3).trans (KeepsOthers.alloc w3 _)).trans (KeepsOthers.of_grownBy (row := v.ownBlock) hgrow fun j o ej hj => by
          rcases (ho3.alloc _).2 with ⟨rfl, _⟩ | ⟨g, cap, cur, rfl, _, hgb, _⟩
          · simp [Value.ownBlock] at ej
          · obtain rfl : g = j := by simpa [Value.ownBlock] using ej
            rw [hgb] at hj; cases hj; rfl)
        have hk5 := hk4.trans (KeepsOthers.setCell w4 ⟨w1.heap.size + 1, 0, none⟩ (.slice (some ⟨g', 0, none⟩) (k + 1) cap'))
        have hb4 : Below w.heap.size w w4 := ((HB.out.trans (hb3.mono HB.out.size)).alloc (by have := HB.out.size; omega) _).grown hgrow (by have := HB.out.size; simp; omega) (fun j e => by have := (ho3.lt _ e).1; omega)
        refine ⟨hk5, fun j h1 h2 => same j (by omega) (by omega), ⟨_, hv4.set _, ?_, by omega⟩, (same _ (by omega) (by omega)).trans A0.out, (same _ (by omega) (by omega)).trans A1.out, (same _ (by omega) (by omega)).trans AK.out, ?_, HS.out, Nat.le_trans hs hk5.size, hb4.setCell (p := ⟨w1.heap.size + 1, 0, none⟩) (by show w.heap.size ≤ w1.heap.size + 1; omega) _⟩
        · rw [HT.out]
          exact hown'.kept (grownBy_setCell' w4 _ _) (.inr (hv4.not_row (by decide) hown').symm)
        · obtain ⟨es, clock, h1, r⟩ := AM.out
          exact ⟨es, clock, (same mb (by omega) (by omega)).trans h1, r⟩
      · have HN := hid (hno (by unfold wordB; rw [hwd, hkb]; rfl))
        rw [hkb] at HKL
        clear hno hwy hwd hb a0 a1 hv ho ak am hkb
        gi_wp2_with (gi_at_call 79; refine (CallsIn.inRound lp (callsIn_wide.2 HW.out)).mono ?_; rintro e w3 ⟨rfl, hb3⟩; have k3 := boxed_later AK.out hb3; have ck := k3.cell; have hlk := HKL.out _ (AM.out.below hb3); have b0' := boxed_later A0.out hb3; have b1' := boxed_later A1.out hb3; have c0 := b0'.cell; have c1 := (b1'.other (B' := w.heap.size) (by omega) (.slice none 0 0)).cell; have f0 := b0'.frozen; have f1 := (b1'.other (B' := w.heap.size) (by omega) (.slice none 0 0)).frozen)
        have hk3 := ((others_of_below hb3).trans (KeepsOthers.setCell _ ⟨w.heap.size, 0, none⟩ (.slice none 0 0))).trans (KeepsOthers.setCell _ ⟨w.heap.size + 1, 0, none⟩ (.bool false))
        exact ⟨hk3, rfl, HN.out, (b0'.set _).other (by omega) _, (b1'.other (by omega) _).set _, Nat.le_trans hs hk3.size, ((HB.out.trans (hb3.mono HB.out.size)).setCell (p := ⟨w.heap.size, 0, none⟩) (Nat.le_refl _) _).setCell (p := ⟨w.heap.size + 1, 0, none⟩) (by simp) _⟩
  case done =>
    rintro D W hD ⟨⟨v, hv, ho, hk⟩, a0, a1, ak, am, hall, hs, hb⟩ hK
    obtain ⟨va, vn, vc, rfl⟩ : ∃ a n c, v = .slice a n c := by
      rcases ho.2 with ⟨rfl, _⟩ | ⟨g, cap, cur, rfl, _⟩
      · exact ⟨_, _, _, rfl⟩
      · exact ⟨_, _, _, rfl⟩
    have c5 := hv.cell
    have c0 := a0.cell
    have f0 := a0.frozen
    have a1' := a1.other (B' := w.heap.size) (by omega) (.slice va vn vc)
    have c1 := a1'.cell
    have f1 := a1'.frozen
    gi_wp2
    have hkd := (KeepsOthers.setCell W ⟨w.heap.size, 0, none⟩ (.slice va vn vc)).trans (KeepsOthers.setCell _ ⟨w.heap.size + 1, 0, none⟩ (.bool true))
    have hK2 := hkd.same D _ hK rfl
    have b0' : Boxed ((W.setCell ⟨w.heap.size, 0, none⟩ (.slice va vn vc)).setCell ⟨w.heap.size + 1, 0, none⟩ (.bool true)) w.heap.size 22 (.slice va vn vc) := (a0.set _).other (by omega) _
    have b1' := a1'.set (.bool true)
    have hb2 := (hb.setCell (p := ⟨w.heap.size, 0, none⟩) (Nat.le_refl _) (.slice va vn vc)).setCell (p := ⟨w.heap.size + 1, 0, none⟩) (by simp) (.bool true)
    have ho2 := (ho.kept (grownBy_setCell' W w.heap.size (.slice va vn vc)) (.inr (fun e => by have := (ho.lt _ e).1; omega)))
    have ho3 := (ho2.kept (grownBy_setCell' _ (w.heap.size + 1) (.bool true)) (.inr (fun e => by have := (ho2.lt _ e).1; omega)))
    generalize (W.setCell ⟨w.heap.size, 0, none⟩ (.slice va vn vc)).setCell ⟨w.heap.size + 1, 0, none⟩ (.bool true) = W5 at *
    have ho4 := ownsRow_putObj ho3 (.deferred none) hK2 rfl
    rw [List.take_length] at ho4 hall
    have hr : wordsO l = some (pieces l) := by unfold wordsO; rw [hall]; rfl
    refine ⟨by simp, .inl ⟨_, _, rfl, run_takeDeferred hK2, ?_⟩⟩
    refine ⟨_, results_boxes rfl rfl rfl (loadVar_plain underS rfl (b0'.kept (grownBy_putObj' W5 D (.deferred none)) (fun e => by have := Option.some.inj e; omega)).cell) (loadVar_plain underO rfl (b1'.kept (grownBy_putObj' W5 D (.deferred none)) (fun e => by have := Option.some.inj e; omega)).cell), _, by rw [hr]; rfl, ?_, hb2.trans (belowK_b (w := w2) (by omega) W5 D _ _ hD hK2 rfl rfl)⟩
    rw [hr]
    exact Strs.ofOwns (l := pieces l) ho4 (by omega)
  case stop =>
    rintro D c k W hD hk ⟨rfl, hw, a0, a1, hs, hb⟩ hK
    gi_wp2
    refine ⟨by simp, .inl ⟨_, _, rfl, run_takeDeferred hK, ?_⟩⟩
    refine ⟨_, results_boxes rfl rfl rfl (loadVar_plain underS rfl (a0.kept (grownBy_putObj' W D (.deferred none)) (fun e => by have := Option.some.inj e; omega)).cell) (loadVar_plain underO rfl (a1.kept (grownBy_putObj' W D (.deferred none)) (fun e => by have := Option.some.inj e; omega)).cell), _, by rw [hw]; rfl, ?_, hb.trans (belowK_b (w := w2) (by omega) W D _ _ hD hK rfl rfl)⟩
    rw [hw]
    exact Row.nil 1 _

theorem Words_any (l : List UInt8) (hl : l.length ≤ 100000) (w : World) :
    Calls Tryd.prog 63 #[.string (text l)] w fun e w' => ∃ v, e = .returned (.tuple #[v, .bool (wordsO l).isSome]) ∧ Strs w' v ((wordsO l).getD []) ∧ Below w.heap.size w w' := callsIn_wide.1 (Words_in l hl w)

def rightB (l : List UInt8) : Bool := (wordsO l).isSome
theorem Right_any (l : List UInt8) (hl : l.length ≤ 100000) (w : World) :
    Calls Tryd.prog 38 #[.string (text l)] w fun e w' => e = .returned (.bool (rightB l)) ∧ Below w.heap.size w w' := by
  have H := hid (fun w => Words_any l hl w)
  go_enter Tryd.func38, Tryd.ntmps38
  go_wp2_with (go_at_call 63; refine (H.out _).mono ?_; rintro e w' ⟨v, rfl, hv, hb⟩)
  go_ret
  exact ⟨rfl, hb⟩
end Go.Proofs.YthggoohchjifnaaDoor.Names
