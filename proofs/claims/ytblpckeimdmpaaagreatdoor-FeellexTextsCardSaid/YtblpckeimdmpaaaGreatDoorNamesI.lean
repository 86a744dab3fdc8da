/- Layer 2: contract of All: the iterator tells the keywords, in order. -/
import Derived.Test.YtblpckeimdmpaaaGreatDoorNamesX
import Derived.Test.YtblpckeimdmpaaaGreatDoorIterShelf
set_option linter.unusedVariables false
set_option linter.unusedSimpArgs false
namespace Go.Proofs.YtblpckeimdmpaaaGreatDoor.Names
open Go Go.Proofs.YtblpckeimdmpaaaGreatDoor Go.Proofs.YtblpckeimdmpaaaGreatDoor.Utf Go.RowKit Go.Shelf Go.Maps
set_option maxRecDepth 100000
attribute [local go_sem] Oper.semAt_some

theorem All_any (w : World) : Calls Tryz.prog 36 #[] w fun e w' => e = .returned (.func (.func 62) #[] #[]) ∧ w' = w := by
  go_enter Tryz.func36, Tryz.ntmps36
  go_wp2
  go_ret
  exact ⟨rfl, rfl⟩

/-- The keywords stand in order. -/
theorem keys_sorted : keys.mergeSort (fun x y => decide (x ≤ y)) = keys := by
  apply List.mergeSort_of_pairwise
  decide +kernel
theorem strKeys_keyD : strKeys keyD = keys := by decide +kernel
theorem size_keyD : Maps.size keyD = 17 := by decide +kernel
theorem keys17 : keys.length = 17 := rfl

/-- Whatever lies stays: what the iterator does between two rounds. -/
def Grows (A B : World) : Prop := Below A.heap.size A B
/-- Cells from n on stay: what the iterator asks of a round. -/
def Stay (n : Nat) (A B : World) : Prop := ∀ (j : Nat) (o : Obj), n ≤ j → A.heap[j]? = some o → o.isCells = true → B.heap[j]? = some o
theorem Stay.trans {n : Nat} {A B C : World} (h : Stay n A B) (k : Stay n B C) : Stay n A C := fun j o h1 h2 h3 => k j o h1 (h j o h1 h2 h3) h3
theorem Stay.put {n : Nat} (W : World) (l : Nat) (o o' : Obj) (h : W.heap[l]? = some o) (hc : o.isCells = false) : Stay n W (W.putObj l o') := fun j x h1 h2 h3 => by
  by_cases e : j = l
  · subst e; rw [h] at h2; cases h2; rw [hc] at h3; cases h3
  · exact (World.putObj_heap_other e).trans h2
theorem Stay.owns {n : Nat} {A B : World} (h : Stay n A B) {e : TypeId} {sz : Nat} {v : Value} {k : Nat} {xs : List Value} (ho : A.ownsRow n e sz v k xs) : B.ownsRow n e sz v k xs := by
  obtain ⟨h1, h2⟩ := ho
  refine ⟨h1, ?_⟩
  rcases h2 with h2 | ⟨g, cap, cur, hv, hg, hh, r⟩
  · exact .inl h2
  · exact .inr ⟨g, cap, cur, hv, hg, h g _ hg hh rfl, r⟩
theorem owns_base {B B' : Nat} {w : World} {e : TypeId} {sz : Nat} {v : Value} {k : Nat} {xs : List Value} (ho : w.ownsRow B e sz v k xs) (h : B' ≤ B) : w.ownsRow B' e sz v k xs := by
  obtain ⟨h1, h2⟩ := ho
  refine ⟨h1, ?_⟩
  rcases h2 with h2 | ⟨g, cap, cur, hv, hg, r⟩
  · exact .inl h2
  · exact .inr ⟨g, cap, cur, hv, Nat.le_trans h hg, r⟩

theorem sorted_row {w : World} {B : Nat} {e : TypeId} {v : Value} {ss : List (List UInt8)} (hS : ss.Perm (strKeys keyD)) (h : w.ownsRow B e 1 v ss.length ((ss.mergeSort (fun x y => decide (x ≤ y))).map encStr)) : w.ownsRow B e 1 v 17 (strsOf keys) := by
  have h1 : ss.length = 17 := by rw [hS.length_eq, strKeys_keyD]; rfl
  have h2 : ss.mergeSort (fun x y => decide (x ≤ y)) = keys := by
    rw [show ss.mergeSort (fun x y => decide (x ≤ y)) = (strKeys keyD).mergeSort (fun x y => decide (x ≤ y)) from mergeSort_of_perm hS, strKeys_keyD, keys_sorted]
  rw [h1, h2] at h
  exact h

set_option maxHeartbeats 4000000 in
theorem all_tells (n : Nat) (hn : 1 ≤ n) (w : World) :
    Tells Fence.wide n Tryz.prog 62 #[] (fun p => .string (text p)) Grows (Stay w.heap.size) keys w := by
  intro lp J Jx W hW hJ hJx hY h0
  have f1 : Fence.wide.fn 52 := trivial
  have f2 : Fence.wide.fn 64 := trivial
  have f3 : Fence.wide.fn 63 := trivial
  refine callsIn_of_wp Tryz.func62 rfl trivial ?_ rfl
  simp only [Tryz.ntmps62, List.size_toArray, List.length_cons, List.length_nil, Nat.reduceAdd, Nat.reduceSub, Array.replicate_succ, Array.replicate_zero, List.push_toArray, List.append_toArray, List.nil_append, List.cons_append]
  have H0 := hid h0
  have HW := hid hW
  clear h0 hW
  gi_wp2_with (first
    | (gi_at_call 52; refine (callsIn_wide.2 (keywords_any _)).mono ?_; rintro e w1 ⟨mb, rfl, hm, hle, hb1⟩)
    | (gi_at_call 64; refine (callsIn_wide.2 (callsIn_wide.1 (Tryz.maps_Keys_64 _ _))).mono ?_; rintro e w2 ⟨rfl, rfl⟩)
    | (gi_at_call 63; refine (callsIn_wide.2 (callsIn_wide.1 (Tryz.slices_Sorted_keys_63_64 mb 17 keyD _ w1 hm (by rw [size_keyD]; unfold maxLen; omega) (by rw [size_keyD]; omega)))).mono ?_; rintro e w3 ⟨v, ss, rfl, hS, hrow, hnil, hb3⟩; have ho3 := owns_base (B' := w.heap.size) (sorted_row hS hrow) (by have := HW.out.size; have := hb1.size; simp; omega); have hlen := fun W => Row.len (P := Tryz.prog) (Strs.ofOwns (l := keys) ho3 (by decide)) 76 3 9 underS W; rw [keys17] at hlen))
  have hb13 : Below W.heap.size W w3 := (bt hb1 (ba (b0 w1) (.cells #[.map (some mb)] 45))).trans (hb3.mono (by have := hb1.size; simp; omega))
  have hj3 := hJ 0 W w3 H0.out hb13
  have HO := hid ho3
  clear hrow hS hnil ho3 hb3 hb1 hm hle hb13
  gi_loopw [8] (fun i wr => ∃ k : Nat, i = .int .i64 k ∧ k ≤ 17 ∧ J k wr ∧ wr.ownsRow w.heap.size 9 1 v 17 (strsOf keys)) (fun i _ => 17 - (intOf i).toNat)
  case atStart => exact ⟨0, rfl, by omega, hj3, HO.out⟩
  case round =>
    obtain ⟨k, rfl, hk, hj, ho⟩ := hrel
    have HO2 := hid ho
    by_cases hlt : k < 17
    · have hx : keys[k]? = some keys[k] := List.getElem?_eq_getElem (by rw [keys17]; exact hlt)
      obtain ⟨b, o, ha, hc⟩ := (Strs.ofOwns (l := keys) ho (by decide)).at k (by rw [keys17]; exact hlt) 76 9 underS sizeS
      generalize keys[k] = x at *
      obtain ⟨fn, tmps, assign, body, hy, hR⟩ := hY k x wr hx hj
      have HR := hid hR
      clear hR hx hj ho
      gi_wp2
      refine HR.out.mono ?_
      rintro e W3 (⟨rfl, hJ3, hk3⟩ | ⟨rfl, hJx3⟩)
      · have ho3 := hk3.owns HO2.out
        have HO3 := hid ho3
        have HJ3 := hid hJ3
        clear hJ3 ho3 ha hc hk3
        gi_wp2
        go_roundw
        case rel => exact ⟨k + 1, by go_num, by omega, HJ3.out, HO3.out⟩
        case measure => simp [intOf]; omega
      · gi_wp2
        refine bodyPost_ret (results_none rfl _ _ _) rfl ?_
        exact ⟨⟨_, rfl⟩, .inr ⟨k + 1, by rw [keys17]; omega, hJx3⟩⟩
    · have hke : k = 17 := by omega
      subst hke
      have HJ := hid hj
      clear hj ho
      gi_wp2
      go_end0
      exact ⟨⟨_, rfl⟩, .inl HJ.out⟩
end Go.Proofs.YtblpckeimdmpaaaGreatDoor.Names
