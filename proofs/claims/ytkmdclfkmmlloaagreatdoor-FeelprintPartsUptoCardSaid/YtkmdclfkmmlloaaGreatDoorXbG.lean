/- Layer 2: contract of All: the iterator tells the keywords, in order. | Layer 8: contracts of the code's runEnd, digit, numberEnd. | Layer 8: contract of the code's signEnd. | Layer 8: strconv.ParseUint of four digits to the base 16, as the code's numbered calls it; numbered. | Layer 8: contract of the code's escape. | Layer 8: places between characters; what a text in quotes tells, character by character. It hangs on no program but for the iterator's steps. | Layer 8: contract of keywords: the map of all keywords, out of the iterator of layer 2. | Layer 8: contract of the code's quoted. | Layer 8: contracts of the code's word and front. | Layer 8: rows of FEEL's tokens; contract of the document's own Same. | Layer 8: contract of the code's Lex. | Layer 8: Lex at given texts; the statements' alive. -/
import Derived.Test.YtkmdclfkmmlloaaGreatDoorXbM
import Derived.Test.YtkmdclfkmmlloaaGreatDoorIterShelf
import Derived.Test.YtkmdclfkmmlloaaGreatDoorXbF
import Derived.Test.YtkmdclfkmmlloaaGreatDoorXbU
import Derived.Test.YtkmdclfkmmlloaaGreatDoorXbE
import Derived.Lib.OthersKept
import Derived.Laws.Rows
import Derived.Test.YtkmdclfkmmlloaaGreatDoorConv
import Derived.Test.YtkmdclfkmmlloaaGreatDoorRange3
import Derived.Maps.OwnIn
import Derived.Laws.ResultCell
import Derived.Maps.AppendAt
import Derived.RegionTactic
import Derived.BigRegion
import Derived.Test.YtkmdclfkmmlloaaGreatDoorApp
import Derived.Deep.LoopGhost
import Derived.Deep.QuietTactic
import Derived.BigQuiet
set_option linter.unusedVariables false
set_option linter.unusedSimpArgs false
namespace Go.Proofs.YtkmdclfkmmlloaaGreatDoor.Names
open Go Go.Proofs.YtkmdclfkmmlloaaGreatDoor Go.Proofs.YtkmdclfkmmlloaaGreatDoor.Utf Go.RowKit Go.Shelf Go.Maps
set_option maxRecDepth 100000
attribute [local go_sem] Oper.semAt_some

theorem All_any (w : World) : Calls Tryz.prog 36 #[] w fun e w' => e = .returned (.func (.func 72) #[] #[]) ∧ w' = w := by
  go_enter Tryz.func36, Tryz.ntmps36
  go_wp2
  go_ret
  exact ⟨rfl, rfl⟩

/-- The keywords stand in order. -/
theorem keys_sorted : keys.mergeSort (fun x y => decide (x ≤ y)) = keys := by
  apply List.mergeSort_of_pairwise
  decide +kernel
theorem strKeys_keyD : strKeys keyD = keys := by decide +kernel
theorem size_keyD : Maps.size keyD = 17 := by decide +kernel
theorem keys17 : keys.length = 17 := rfl

/-- Whatever lies stays: what the iterator does between two rounds. -/
def Grows (A B : World) : Prop := Below A.heap.size A B
/-- Cells from n on stay: what the iterator asks of a round. -/
def Stay (n : Nat) (A B : World) : Prop := ∀ (j : Nat) (o : Obj), n ≤ j → A.heap[j]? = some o → o.isCells = true → B.heap[j]? = some o
theorem Stay.trans {n : Nat} {A B C : World} (h : Stay n A B) (k : Stay n B C) : Stay n A C := fun j o h1 h2 h3 => k j o h1 (h j o h1 h2 h3) h3
theorem Stay.put {n : Nat} (W : World) (l : Nat) (o o' : Obj) (h : W.heap[l]? = some o) (hc : o.isCells = false) : Stay n W (W.putObj l o') := fun j x h1 h2 h3 => by
  by_cases e : j = l
  · subst e; rw [h] at h2; cases h2; rw [hc] at h3; cases h3
  · exact (World.putObj_heap_other e).trans h2
theorem Stay.owns {n : Nat} {A B : World} (h : Stay n A B) {e : TypeId} {sz : Nat} {v : Value} {k : Nat} {xs : List Value} (ho : A.ownsRow n e sz v k xs) : B.ownsRow n e sz v k xs := by
  obtain ⟨h1, h2⟩ := ho
  refine ⟨h1, ?_⟩
  rcases h2 with h2 | ⟨g, cap, cur, hv, hg, hh, r⟩
  · exact .inl h2
  · exact .inr ⟨g, cap, cur, hv, hg, h g _ hg hh rfl, r⟩
theorem owns_base {B B' : Nat} {w : World} {e : TypeId} {sz : Nat} {v : Value} {k : Nat} {xs : List Value} (ho : w.ownsRow B e sz v k xs) (h : B' ≤ B) : w.ownsRow B' e sz v k xs := by
  obtain ⟨h1, h2⟩ := ho
  refine ⟨h1, ?_⟩
  rcases h2 with h2 | ⟨g, cap, cur, hv, hg, r⟩
  · exact .inl h2
  · exact .inr ⟨g, cap, cur, hv, Nat.le_trans h hg, r⟩

theorem sorted_row {w : World} {B : Nat} {e : TypeId} {v : Value} {ss : List (List UInt8)} (hS : ss.Perm (strKeys keyD)) (h : w.ownsRow B e 1 v ss.length ((ss.mergeSort (fun x y => decide (x ≤ y))).map encStr)) : w.ownsRow B e 1 v 17 (strsOf keys) := by
  have h1 : ss.length = 17 := by rw [hS.length_eq, strKeys_keyD]; rfl
  have h2 : ss.mergeSort (fun x y => decide (x ≤ y)) = keys := by
    rw [show ss.mergeSort (fun x y => decide (x ≤ y)) = (strKeys keyD).mergeSort (fun x y => decide (x ≤ y)) from mergeSort_of_perm hS, strKeys_keyD, keys_sorted]
  rw [h1, h2] at h
  exact h

set_option maxHeartbeats 4000000 in
theorem all_tells (n : Nat) (hn : 1 ≤ n) (w : World) :
    Tells Fence.wide n Tryz.prog 72 #[] (fun p => .string (text p)) Grows (Stay w.heap.size) keys w := by
  intro lp J Jx W hW hJ hJx hY h0
  have f1 : Fence.wide.fn 75 := trivial
  have f2 : Fence.wide.fn 74 := trivial
  have f3 : Fence.wide.fn 73 := trivial
  refine callsIn_of_wp Tryz.func72 rfl trivial ?_ rfl
  simp only [Tryz.ntmps72, List.size_toArray, List.length_cons, List.length_nil, Nat.reduceAdd, Nat.reduceSub, Array.replicate_succ, Array.replicate_zero, List.push_toArray, List.append_toArray, List.nil_append, List.cons_append]
  have H0 := hid h0
  have HW := hid hW
  clear h0 hW
  gi_wp2_with (first
    | (gi_at_call 75; refine (callsIn_wide.2 (keywords_any _)).mono ?_; rintro e w1 ⟨mb, rfl, hm, hle, hb1⟩)
    | (gi_at_call 74; refine (callsIn_wide.2 (callsIn_wide.1 (Tryz.maps_Keys_74 _ _))).mono ?_; rintro e w2 ⟨rfl, rfl⟩)
    | (gi_at_call 73; refine (callsIn_wide.2 (callsIn_wide.1 (Tryz.slices_Sorted_keys_73_74 mb 17 keyD _ w1 hm (by rw [size_keyD]; unfold maxLen; omega) (by rw [size_keyD]; omega)))).mono ?_; rintro e w3 ⟨v, ss, rfl, hS, hrow, hnil, hb3⟩; have ho3 := owns_base (B' := w.heap.size) (sorted_row hS hrow) (by have := HW.out.size; have := hb1.size; simp; omega); have hlen := fun W => Row.len (P := Tryz.prog) (Strs.ofOwns (l := keys) ho3 (by decide)) 22 3 9 underS W; rw [keys17] at hlen))
  have hb13 : Below W.heap.size W w3 := (bt hb1 (ba (b0 w1) (.cells #[.map (some mb)] 54))).trans (hb3.mono (by have := hb1.size; simp; omega))
  have hj3 := hJ 0 W w3 H0.out hb13
  have HO := hid ho3
  clear hrow hS hnil ho3 hb3 hb1 hm hle hb13
  gi_loopw [8] (fun i wr => ∃ k : Nat, i = .int .i64 k ∧ k ≤ 17 ∧ J k wr ∧ wr.ownsRow w.heap.size 9 1 v 17 (strsOf keys)) (fun i _ => 17 - (intOf i).toNat)
  case atStart => exact ⟨0, rfl, by omega, hj3, HO.out⟩
  case round =>
    obtain ⟨k, rfl, hk, hj, ho⟩ := hrel
    have HO2 := hid ho
    by_cases hlt : k < 17
    · have hx : keys[k]? = some keys[k] := List.getElem?_eq_getElem (by rw [keys17]; exact hlt)
      obtain ⟨b, o, ha, hc⟩ := (Strs.ofOwns (l := keys) ho (by decide)).at k (by rw [keys17]; exact hlt) 22 9 underS sizeS
      generalize keys[k] = x at *
      obtain ⟨fn, tmps, assign, body, hy, hR⟩ := hY k x wr hx hj
      have HR := hid hR
      clear hR hx hj ho
      gi_wp2
      refine HR.out.mono ?_
      rintro e W3 (⟨rfl, hJ3, hk3⟩ | ⟨rfl, hJx3⟩)
      · have ho3 := hk3.owns HO2.out
        have HO3 := hid ho3
        have HJ3 := hid hJ3
        clear hJ3 ho3 ha hc hk3
        gi_wp2
        go_roundw
        case rel => exact ⟨k + 1, by go_num, by omega, HJ3.out, HO3.out⟩
        case measure => simp [intOf]; omega
      · gi_wp2
        refine bodyPost_ret (results_none rfl _ _ _) rfl ?_
        exact ⟨⟨_, rfl⟩, .inr ⟨k + 1, by rw [keys17]; omega, hJx3⟩⟩
    · have hke : k = 17 := by omega
      subst hke
      have HJ := hid hj
      clear hj ho
      gi_wp2
      go_end0
      exact ⟨⟨_, rfl⟩, .inl HJ.out⟩
end Go.Proofs.YtkmdclfkmmlloaaGreatDoor.Names
namespace Go.Proofs.YtkmdclfkmmlloaaGreatDoor.Fx
open Go Go.Proofs.YtkmdclfkmmlloaaGreatDoor Go.Proofs.YtkmdclfkmmlloaaGreatDoor.Utf Go.Proofs.YtkmdclfkmmlloaaGreatDoor.Names Go.Proofs.YtkmdclfkmmlloaaGreatDoor.Ent Go.Proofs.YtkmdclfkmmlloaaGreatDoor.Fl Go.RowKit
set_option maxRecDepth 100000

theorem dec_pos (l : List UInt8) (pos : Nat) : 1 ≤ (Utf8.decode (text l) pos).2 := by
  rw [Lib.decode_at]
  simp only [nth_data, text_data, text_size]
  unfold Lib.decodeN
  repeat' split
  all_goals simp
theorem dec_low (l : List UInt8) (pos : Nat) (hp : pos < l.length) : ((l[pos]'hp).toNat < 128 → Utf8.decode (text l) pos = ((l[pos]'hp).toNat, 1)) ∧ (¬ (l[pos]'hp).toNat < 128 → 128 ≤ (Utf8.decode (text l) pos).1) := by
  rw [Lib.decode_at]
  simp only [nth_data, text_data, text_size]
  rw [nth_get hp]
  have h1 := nth_lt l pos
  constructor
  · intro h
    unfold Lib.decodeN
    rw [if_pos h]
  · intro h
    unfold Lib.decodeN
    rw [if_neg h]
    repeat' split
    all_goals first | omega | (show (128 : Nat) ≤ _; simp only []; omega)
theorem iter_is {W : World} {k : Nat} {s : ByteArray} {pos : Nat} (h : W.heap[k]? = some (.stringIter s pos)) : W.iterPos k = pos := by
  unfold World.iterPos; rw [h]

set_option maxHeartbeats 4000000 in
theorem runEnd_any (F : Nat) (p : Int → Bool) (hk : ∀ (c : Nat) (w : World), Calls Tryz.prog F #[.int .i64 c] w fun e w' => e = .returned (.bool (p c)) ∧ w = w') (ef : ∀ args w, (callFunc F args).run Tryz.prog w = .ok (.enter F args) w)
    (l : List UInt8) (hl : l.length ≤ 1000000000) (N : Nat) (St : Nat → Prop) (h0 : St 0)
    (hs : ∀ pos, St pos → pos < l.length → (p ((Utf8.decode (text l) pos).1 : Nat) = true → St (pos + (Utf8.decode (text l) pos).2)) ∧ (p ((Utf8.decode (text l) pos).1 : Nat) = false → pos = N))
    (he : ∀ pos, St pos → ¬ pos < l.length → l.length = N) (w : World) :
    Calls Tryz.prog 39 #[.string (text l), .func (.func F) #[] #[]] w fun e w' => e = .returned (.int .i64 N) ∧ Below w.heap.size w w' := by
  have s1 : (text l).size = l.length := text_size l
  have HK := hid hk
  have HS := hid hs
  have HE := hid he
  have H0 := hid h0
  clear hk hs he h0
  go_enter Tryz.func39, Tryz.ntmps39
  go_wp2_with fail
  go_loopw [5] (fun _ wr => ∃ pos : Nat, wr.heap[w.heap.size]? = some (.stringIter (text l) pos) ∧ Hid (St pos) ∧ Below w.heap.size w wr ∧ w.heap.size + 1 ≤ wr.heap.size) (fun _ wr => l.length - wr.iterPos w.heap.size)
  case atStart =>
    exact ⟨0, heap_alloc_new w _, H0, ba (b0 w) _, by
      show w.heap.size + 1 ≤ (w.alloc (.stringIter (text l) 0)).heap.size
      simp⟩
  case round =>
    rename World => wr
    obtain ⟨pos, hit, HST, hbr, hzr⟩ := hrel
    by_cases hp : pos < l.length
    · have hps : pos < (text l).size := by rw [s1]; exact hp
      have hnx : ∀ ty, (Instr.next (.pointer (some ⟨w.heap.size, 0, none⟩)) true ty).run Tryz.prog wr = _ := fun ty => Lib.run_next_any_at wr w.heap.size (text l) pos ty hit hps
      have hnew := Lib.iterAt_heap wr w.heap.size (text l) pos (pos + (Utf8.decode (text l) pos).2) hit
      have hnb := Lib.below_iterAt hbr (k := w.heap.size) (by omega) (text l) (pos + (Utf8.decode (text l) pos).2)
      have hnz := Lib.iterAt_size wr w.heap.size (text l) (pos + (Utf8.decode (text l) pos).2)
      have hmeas := iter_is hit
      have hst := HS.out pos HST.out hp
      have hd1 := dec_pos l pos
      have hd2 : ((Utf8.decode (text l) pos).1 : Int) ≤ 2147483647 := by
        rw [Lib.decode_at]
        simp only [nth_data, text_data, text_size]
        have h1 := nth_lt l pos
        unfold Lib.decodeN
        repeat' split
        all_goals first | omega | (simp only []; omega)
      generalize Utf8.decode (text l) pos = q at *
      obtain ⟨c, k⟩ := q
      dsimp only at hnx hnew hnb hnz hst hd1 hd2
      have HN := hid hnew
      have HNB := hid hnb
      have HM := hid hmeas
      clear hit hbr hnew hnb hmeas hps
      generalize wr.iterAt w.heap.size (text l) (pos + k) = w4 at *
      have hkk := fun w => HK.out c w
      cases hpc : p (c : Int)
      · rw [hpc] at hkk hst
        have HKK := hid hkk
        have R := hid (hst.2 rfl)
        clear hkk hst hpc
        go_wp2_with fail
        refine (HKK.out _).mono ?_
        rintro e w5 ⟨rfl, rfl⟩
        go_wp2
        go_ret
        exact ⟨by rw [← R.out]; rfl, HNB.out⟩
      · rw [hpc] at hkk hst
        have HKK := hid hkk
        have R := hid (hst.1 rfl)
        clear hkk hst hpc
        go_wp2_with fail
        refine (HKK.out _).mono ?_
        rintro e w5 ⟨rfl, rfl⟩
        go_wp2_with fail
        go_roundw
        case rel => exact ⟨pos + k, HN.out, R, HNB.out, by omega⟩
        case measure => rw [HM.out, iter_is HN.out]; omega
    · have hps : ¬ pos < (text l).size := by rw [s1]; exact hp
      have hnx : ∀ ty, (Instr.next (.pointer (some ⟨w.heap.size, 0, none⟩)) true ty).run Tryz.prog wr = _ := fun ty => Lib.run_next_end_at wr w.heap.size (text l) pos ty hit hps
      have R := hid (HE.out pos HST.out hp)
      have HBR := hid hbr
      clear hit hbr hps
      go_wp2
      go_ret
      exact ⟨by rw [← R.out]; rfl, HBR.out⟩

theorem digit_is (c : Int) (w : World) : Calls Tryz.prog 80 #[.int .i64 c] w fun e w' => e = .returned (.bool (decide (48 ≤ c ∧ c ≤ 57))) ∧ w = w' := by
  go_enter Tryz.func80, Tryz.ntmps80
  go_wp2
  all_goals
    go_ret
    simp_all
    try omega

theorem digN_cons (b : UInt8) (r : List UInt8) : digN (b :: r) = if Fl.isd b = true then digN r + 1 else 0 := rfl
theorem isd_is (b : UInt8) : Fl.isd b = decide (48 ≤ (b.toNat : Int) ∧ (b.toNat : Int) ≤ 57) := by
  unfold Fl.isd
  congr 1
  exact propext ⟨fun h => ⟨by omega, by omega⟩, fun h => ⟨by omega, by omega⟩⟩

/-- How many digits stand in front. -/
theorem digits_any (l : List UInt8) (hl : l.length ≤ 1000000000) (w : World) :
    Calls Tryz.prog 39 #[.string (text l), .func (.func 80) #[] #[]] w fun e w' => e = .returned (.int .i64 (digN l)) ∧ Below w.heap.size w w' := by
  refine runEnd_any 80 (fun c => decide (48 ≤ c ∧ c ≤ 57)) (fun c w => digit_is c w) (enters_of Tryz.func80 (by kernel_rfl) rfl) l hl (digN l) (fun pos => pos ≤ l.length ∧ pos + digN (l.drop pos) = digN l) ⟨Nat.zero_le _, by simp⟩ ?_ ?_ w
  · rintro pos ⟨h1, h2⟩ hp
    have hdr : l.drop pos = l[pos] :: l.drop (pos + 1) := List.drop_eq_getElem_cons hp
    rw [hdr, digN_cons] at h2
    obtain ⟨d1, d2⟩ := dec_low l pos hp
    rw [isd_is] at h2
    by_cases hb : (l[pos]).toNat < 128
    · rw [d1 hb]
      constructor
      · intro h
        rw [if_pos h] at h2
        exact ⟨by show pos + 1 ≤ _; omega, by show pos + 1 + digN (l.drop (pos + 1)) = _; omega⟩
      · intro h
        rw [if_neg (by show ¬ _ = true; simpa using h)] at h2
        omega
    · have d3 := d2 hb
      have hno : decide (48 ≤ ((Utf8.decode (text l) pos).1 : Int) ∧ ((Utf8.decode (text l) pos).1 : Int) ≤ 57) = false := decide_eq_false (by omega)
      constructor
      · intro h; rw [show _ = _ from h] at hno; cases hno
      · intro _
        rw [if_neg (by simp; omega)] at h2
        omega
  · rintro pos ⟨h1, h2⟩ hp
    have : pos = l.length := by omega
    subst this
    rw [List.drop_length] at h2
    exact h2

theorem num_yes {l r : List UInt8} (h : l.drop (digN l) = 46 :: r) (h2 : digN r ≠ 0) : numN l = digN l + 1 + digN r := by
  have hd : dotted (l.drop (digN l)) = true := by
    rw [h]
    rcases r with _ | ⟨b, r⟩
    · exact absurd rfl h2
    · rw [digN_cons] at h2
      have hb : Fl.isd b = true := by
        refine Classical.byContradiction fun hh => h2 (if_neg hh)
      show ((46 : UInt8) == 46 && Fl.isd b) = true
      rw [hb]; rfl
  unfold numN
  rw [if_pos hd, ← List.drop_drop, h]; rfl
theorem num_no {l : List UInt8} (h : ∀ r, l.drop (digN l) = 46 :: r → digN r = 0) : numN l = digN l := by
  have hd : dotted (l.drop (digN l)) = false := by
    rcases hx : l.drop (digN l) with _ | ⟨a, _ | ⟨b, r⟩⟩
    · rfl
    · rfl
    · show (a == 46 && Fl.isd b) = false
      by_cases ha : a = 46
      · subst ha
        have := h _ hx
        rw [digN_cons] at this
        have hb : Fl.isd b = false := by
          refine Classical.byContradiction fun hh => ?_
          rw [if_pos (by simpa using hh)] at this
          omega
        rw [hb]; rfl
      · rw [beq_eq_false_iff_ne.2 ha]; rfl
  unfold numN
  rw [if_neg (by rw [hd]; simp)]
theorem numB_zero {l : List UInt8} (h : numB l = false) : numN l = 0 := by
  unfold numB at h
  rw [Bool.or_eq_false_iff] at h
  have h0 : digN l = 0 := by
    rcases l with _ | ⟨b, r⟩
    · rfl
    · rw [digN_cons, if_neg (by rw [show Fl.isd b = false from h.1]; simp)]
  unfold numN
  rw [h0, List.drop_zero, if_neg (by rw [h.2]; simp)]
theorem cut_yes (x p : List UInt8) (h : pre p x = true) (a : Array UInt8) (ha : a.toList = p) (w : World) :
    Calls Tryz.prog 81 #[.string (text x), .string ⟨a⟩] w fun e w' => e = .returned (.tuple #[.string (text (x.drop p.length)), .bool true]) ∧ w = w' := by
  have e : (⟨a⟩ : ByteArray) = text p := by rw [← ha]; simp [text]
  rw [e]
  refine (Tryz.strings_CutPrefix (text x) (text p) w).mono ?_
  rintro e w' ⟨rfl, rfl⟩
  refine ⟨?_, rfl⟩
  have h2 : Lib.hasPrefix x p = true := h
  rw [text_data, text_data, h2]
  unfold Lib.trimPrefix
  rw [if_pos h2]; rfl
theorem cut_no (x p : List UInt8) (h : pre p x = false) (a : Array UInt8) (ha : a.toList = p) (w : World) :
    Calls Tryz.prog 81 #[.string (text x), .string ⟨a⟩] w fun e w' => e = .returned (.tuple #[.string (text x), .bool false]) ∧ w = w' := by
  have e : (⟨a⟩ : ByteArray) = text p := by rw [← ha]; simp [text]
  rw [e]
  refine (Tryz.strings_CutPrefix (text x) (text p) w).mono ?_
  rintro e w' ⟨rfl, rfl⟩
  refine ⟨?_, rfl⟩
  have h2 : Lib.hasPrefix x p = false := h
  rw [text_data, text_data, h2]
  unfold Lib.trimPrefix
  rw [h2]; rfl

set_option maxHeartbeats 4000000 in
theorem numberEnd_any (l : List UInt8) (hl : l.length ≤ 1000000000) (w : World) :
    Calls Tryz.prog 42 #[.string (text l)] w fun e w' => e = .returned (.int .i64 (numN l)) ∧ Below w.heap.size w w' := by
  have s1 : (text l).size = l.length := text_size l
  have hn := digN_le l
  have hdg := fun w => digits_any l hl w
  have hx : (text l).extract (digN l) l.length = text (l.drop (digN l)) := by have := text_extract l (digN l); rwa [s1] at this
  have hml : (l.drop (digN l)).length = l.length - digN l := List.length_drop
  by_cases hp : pre [46] (l.drop (digN l)) = true
  · obtain ⟨r, hr⟩ := (pre_iff _ _).1 hp
    have hr' : l.drop (digN l) = 46 :: r := hr
    have hc := fun a ha w => cut_yes (l.drop (digN l)) [46] hp a ha w
    rw [hr'] at hc hx hml
    have hrl : r.length ≤ l.length := by simp at hml; omega
    have hdr := fun w => digits_any r (by omega) w
    have hdrl := digN_le r
    have HD := hid hdg
    have HC := hid hc
    have HR := hid hdr
    by_cases h0 : digN r = 0
    · have hN := num_no (l := l) (fun r' h' => by rw [hr'] at h'; injection h' with _ h'; rw [← h']; exact h0)
      have HN := hid hN
      have hz : ((digN r : Int) == 0) = true := by rw [beq_iff_eq]; omega
      clear hdg hc hdr hN hr hp
      generalize digN l = n at *
      generalize digN r = m at *
      have HX := hid hr'
      clear hr' h0
      go_enter Tryz.func42, Tryz.ntmps42
      go_wp2_with fail
      refine (HD.out _).mono ?_
      rintro e w1 ⟨rfl, hb1⟩
      go_wp2_with fail
      refine (HC.out _ (by decide) _).mono ?_
      rintro e w2 ⟨rfl, rfl⟩
      go_wp2_with fail
      refine (HR.out _).mono ?_
      rintro e w3 ⟨rfl, hb3⟩
      go_wp2
      go_ret
      exact ⟨by rw [HN.out]; rfl, bt hb1 hb3⟩
    · have hN := num_yes (l := l) hr' h0
      have HN := hid hN
      have hz : ((digN r : Int) == 0) = false := by rw [beq_eq_false_iff_ne]; omega
      clear hdg hc hdr hN hr hp
      generalize digN l = n at *
      generalize digN r = m at *
      have HX := hid hr'
      clear hr' h0
      go_enter Tryz.func42, Tryz.ntmps42
      go_wp2_with fail
      refine (HD.out _).mono ?_
      rintro e w1 ⟨rfl, hb1⟩
      go_wp2_with fail
      refine (HC.out _ (by decide) _).mono ?_
      rintro e w2 ⟨rfl, rfl⟩
      go_wp2_with fail
      refine (HR.out _).mono ?_
      rintro e w3 ⟨rfl, hb3⟩
      go_wp2
      go_ret
      exact ⟨by rw [HN.out]; rfl, bt hb1 hb3⟩
  · have hp' : pre [46] (l.drop (digN l)) = false := by simpa using hp
    have hc := fun a ha w => cut_no (l.drop (digN l)) [46] hp' a ha w
    have hdr := fun w => digits_any (l.drop (digN l)) (by omega) w
    have hdrl := digN_le (l.drop (digN l))
    have hN := num_no (l := l) (fun r' h' => absurd ((pre_iff _ _).2 ⟨r', h'⟩) hp)
    have HN := hid hN
    have HD := hid hdg
    have HC := hid hc
    have HR := hid hdr
    clear hdg hc hdr hN hp hp'
    generalize l.drop (digN l) = r at *
    generalize digN l = n at *
    generalize digN r = m at *
    go_enter Tryz.func42, Tryz.ntmps42
    go_wp2_with fail
    refine (HD.out _).mono ?_
    rintro e w1 ⟨rfl, hb1⟩
    go_wp2_with fail
    refine (HC.out _ (by decide) _).mono ?_
    rintro e w2 ⟨rfl, rfl⟩
    go_wp2_with fail
    refine (HR.out _).mono ?_
    rintro e w3 ⟨rfl, hb3⟩
    go_wp2
    go_ret
    exact ⟨by rw [HN.out]; rfl, bt hb1 hb3⟩
end Go.Proofs.YtkmdclfkmmlloaaGreatDoor.Fx
namespace Go.Proofs.YtkmdclfkmmlloaaGreatDoor.Fx
open Go Go.Proofs.YtkmdclfkmmlloaaGreatDoor Go.Proofs.YtkmdclfkmmlloaaGreatDoor.Utf Go.Proofs.YtkmdclfkmmlloaaGreatDoor.Names Go.Proofs.YtkmdclfkmmlloaaGreatDoor.Ent Go.Proofs.YtkmdclfkmmlloaaGreatDoor.Fl Go.RowKit
set_option maxRecDepth 100000

/-- The table of signs. -/
def signsL : List (List UInt8) := [[43], [45], [42], [42, 42], [47], [60], [60, 61], [62], [62, 61], [61], [33, 61], [40], [41], [91], [93], [123], [125], [44], [58], [46], [46, 46]]
def signV : Array Value := #[.string ⟨#[43]⟩, .string ⟨#[45]⟩, .string ⟨#[42]⟩, .string ⟨#[42, 42]⟩, .string ⟨#[47]⟩, .string ⟨#[60]⟩, .string ⟨#[60, 61]⟩, .string ⟨#[62]⟩, .string ⟨#[62, 61]⟩, .string ⟨#[61]⟩, .string ⟨#[33, 61]⟩, .string ⟨#[40]⟩, .string ⟨#[41]⟩, .string ⟨#[91]⟩, .string ⟨#[93]⟩, .string ⟨#[123]⟩, .string ⟨#[125]⟩, .string ⟨#[44]⟩, .string ⟨#[58]⟩, .string ⟨#[46]⟩, .string ⟨#[46, 46]⟩]
/-- The table holds what its text lays. -/
def Signs (w : World) : Prop := ∃ t fr, w.heap[0]? = some (.cells signV t fr)
theorem Signs.below {w w' : World} (h : Signs w) {B : Nat} (hb : Below B w w') (hB : w.heap.size ≤ B) : Signs w' := by
  obtain ⟨t, fr, h1⟩ := h
  have hlt := (Array.getElem?_eq_some_iff.1 h1).1
  exact ⟨t, fr, (hb.block _ (Nat.lt_of_lt_of_le hlt hB)).trans h1⟩
theorem sign_at (k : Nat) (hk : k < 21) (W : World) : (Instr.index 103 (.agg signV) (.int .i64 k)).run Tryz.prog W = .ok (.string (text (signsL.getD k []))) W := by
  rcases (by omega : k = 0 ∨ k = 1 ∨ k = 2 ∨ k = 3 ∨ k = 4 ∨ k = 5 ∨ k = 6 ∨ k = 7 ∨ k = 8 ∨ k = 9 ∨ k = 10 ∨ k = 11 ∨ k = 12 ∨ k = 13 ∨ k = 14 ∨ k = 15 ∨ k = 16 ∨ k = 17 ∨ k = 18 ∨ k = 19 ∨ k = 20) with rfl | rfl | rfl | rfl | rfl | rfl | rfl | rfl | rfl | rfl | rfl | rfl | rfl | rfl | rfl | rfl | rfl | rfl | rfl | rfl | rfl
  all_goals kernel_rfl
theorem under21 : Tryz.prog.underlying 103 = some (.array 21 9) := Tryz.underlying103

/-- The longest of the first signs that a text begins with. -/
def best : Nat → List UInt8 → Nat
  | 0, _ => 0
  | k + 1, l => if pre (signsL.getD k []) l = true then max (best k l) (signsL.getD k []).length else best k l
theorem best_le : ∀ (k : Nat) (l : List UInt8), best k l ≤ 2
  | 0, l => by show 0 ≤ 2; omega
  | k + 1, l => by
    have ih := best_le k l
    have h : (signsL.getD k []).length ≤ 2 := by
      rw [List.getD_eq_getElem?_getD]
      rcases hx : signsL[k]? with _ | x
      · simp
      · have hm := List.mem_of_getElem? hx
        have hall : ∀ x ∈ signsL, x.length ≤ 2 := by decide
        exact hall x hm
    unfold best
    split
    · omega
    · exact ih
theorem pre_1 (x a : UInt8) (r : List UInt8) : pre [x] (a :: r) = (x == a) := by
  have h : (pre [x] (a :: r) = true) = ((x == a) = true) := by
    rw [Ent.pre_iff, beq_iff_eq]
    exact propext ⟨fun ⟨m, h⟩ => by injection h with h _; exact h.symm, fun h => ⟨r, by rw [h]; rfl⟩⟩
  cases h1 : pre [x] (a :: r) <;> cases h2 : (x == a) <;> simp_all
theorem pre_2 (x y a b : UInt8) (r : List UInt8) : pre [x, y] (a :: b :: r) = (x == a && y == b) := by
  have h : (pre [x, y] (a :: b :: r) = true) = ((x == a && y == b) = true) := by
    rw [Ent.pre_iff, Bool.and_eq_true, beq_iff_eq, beq_iff_eq]
    exact propext ⟨fun ⟨m, h⟩ => by injection h with h h2; injection h2 with h2 _; exact ⟨h.symm, h2.symm⟩, fun ⟨h, h2⟩ => ⟨r, by rw [h, h2]; rfl⟩⟩
  cases h1 : pre [x, y] (a :: b :: r) <;> cases h2 : (x == a && y == b) <;> simp_all
theorem one_sign_is : ∀ a : UInt8, best 21 [a] = signN [a] := by
  have key : ((List.range 256).all fun n => best 21 [UInt8.ofNat n] == signN [UInt8.ofNat n]) = true := by decide +kernel
  intro a
  have := List.all_eq_true.1 key a.toNat (List.mem_range.2 (UInt8.toNat_lt a))
  rw [UInt8.ofNat_toNat] at this
  exact beq_iff_eq.1 this
/-- Only what a text begins with plays a part. -/
theorem best_two (a b : UInt8) (r : List UInt8) : ∀ k, best k (a :: b :: r) = best k [a, b]
  | 0 => rfl
  | k + 1 => by
    have ih := best_two a b r k
    have hp : pre (signsL.getD k []) (a :: b :: r) = pre (signsL.getD k []) [a, b] := by
      have hall : ∀ x ∈ signsL, (∃ y, x = [y]) ∨ (∃ y z, x = [y, z]) := by
        intro x hx
        simp only [signsL, List.mem_cons, List.mem_nil_iff, or_false] at hx
        rcases hx with rfl | rfl | rfl | rfl | rfl | rfl | rfl | rfl | rfl | rfl | rfl | rfl | rfl | rfl | rfl | rfl | rfl | rfl | rfl | rfl | rfl
        all_goals first | exact .inl ⟨_, rfl⟩ | exact .inr ⟨_, _, rfl⟩
      rw [List.getD_eq_getElem?_getD]
      rcases hx : signsL[k]? with _ | x
      · have e : ∀ m, pre [] m = true := fun m => (Ent.pre_iff _ _).2 ⟨m, rfl⟩
        show pre [] _ = pre [] _
        rw [e, e]
      · show pre x _ = pre x _
        rcases hall x (List.mem_of_getElem? hx) with ⟨y, rfl⟩ | ⟨y, z, rfl⟩
        · rw [pre_1, pre_1]
        · rw [pre_2, pre_2]
    unfold best
    rw [hp, ih]
def heads : List UInt8 := [33, 43, 45, 42, 47, 60, 62, 61, 40, 41, 91, 93, 123, 125, 44, 58, 46]
theorem two_sign_all : (heads.all fun a => (List.range 256).all fun m => best 21 [a, UInt8.ofNat m] == signN [a, UInt8.ofNat m]) = true := by decide +kernel
theorem best_none {a b : UInt8} (h : a ∉ heads) : ∀ k, k ≤ 21 → best k [a, b] = 0
  | 0, _ => rfl
  | k + 1, hk => by
    have ih := best_none (b := b) h k (by omega)
    have hall : ∀ x ∈ signsL, ∃ y r, x = y :: r ∧ y ∈ heads := by
      intro x hx
      simp only [signsL, List.mem_cons, List.mem_nil_iff, or_false] at hx
      rcases hx with rfl | rfl | rfl | rfl | rfl | rfl | rfl | rfl | rfl | rfl | rfl | rfl | rfl | rfl | rfl | rfl | rfl | rfl | rfl | rfl | rfl
      all_goals exact ⟨_, _, rfl, by decide⟩
    have hlt : k < signsL.length := by show k < 21; omega
    obtain ⟨y, r, hy, hm⟩ := hall _ (List.getElem_mem hlt)
    have hp : pre (signsL.getD k []) [a, b] = false := by
      cases h1 : pre (signsL.getD k []) [a, b]
      · rfl
      · rw [List.getD_eq_getElem?_getD, List.getElem?_eq_getElem hlt] at h1
        obtain ⟨m, h2⟩ := (Ent.pre_iff _ _).1 h1
        rw [Option.getD_some, hy] at h2
        injection h2 with h2 _
        exact absurd (h2 ▸ hm) h
    unfold best
    rw [if_neg (by rw [hp]; simp), ih]
theorem sign_none {a b : UInt8} (h : a ∉ heads) : signN [a, b] = 0 := by
  have h1 : singles.contains a = false := by
    cases hc : singles.contains a
    · rfl
    · have hall : ∀ x ∈ singles, x ∈ heads := by decide
      exact absurd (hall a (List.contains_iff_mem.1 hc)) h
  have h2 : pairs.contains (a, b) = false := by
    cases hc : pairs.contains (a, b)
    · rfl
    · have hall : ∀ x ∈ pairs, x.1 ∈ heads := by decide
      exact absurd (hall (a, b) (List.contains_iff_mem.1 hc)) h
  rw [sign_2, h1, h2]; rfl
theorem best_sign (l : List UInt8) : best 21 l = signN l := by
  match l with
  | [] => decide
  | [a] => exact one_sign_is a
  | a :: b :: r =>
    rw [best_two]
    by_cases h : a ∈ heads
    · have h1 := List.all_eq_true.1 two_sign_all a h
      have h2 := List.all_eq_true.1 h1 b.toNat (List.mem_range.2 (UInt8.toNat_lt b))
      rw [UInt8.ofNat_toNat] at h2
      rw [beq_iff_eq.1 h2]; rfl
    · rw [best_none h 21 (by omega)]
      exact (sign_none h).symm
theorem has_any (l p : List UInt8) (b : Bool) (h : pre p l = b) (w : World) :
    Calls Tryz.prog 70 #[.string (text l), .string (text p)] w fun e w' => e = .returned (.bool b) ∧ w = w' := by
  refine (Tryz.strings_HasPrefix (text l) (text p) w).mono ?_
  rintro e w' ⟨rfl, rfl⟩
  refine ⟨?_, rfl⟩
  have h2 : Lib.hasPrefix l p = b := h
  rw [text_data, text_data, h2]

set_option maxHeartbeats 4000000 in
theorem signEnd_any (l : List UInt8) (w : World) (hS : Signs w) :
    Calls Tryz.prog 43 #[.string (text l)] w fun e w' => e = .returned (.int .i64 (signN l)) ∧ w' = w := by
  obtain ⟨t, fr, hg⟩ := hS
  have HA := hid sign_at
  have HB := hid (best_sign l)
  go_enter Tryz.func43, Tryz.ntmps43
  go_wp2_with (refine wpList_load_row rfl 103 _ rfl 0 rfl t _ fr _ hg under21 rfl (by kernel_rfl) ?_)
  go_loopw [3, 7] (fun m i wr => ∃ k : Nat, i = .int .i64 k ∧ k ≤ 21 ∧ m = .int .i64 (best k l) ∧ wr = w) (fun _ i _ => 21 - (intOf i).toNat)
  case atStart => exact ⟨0, rfl, by omega, rfl, rfl⟩
  case round =>
    obtain ⟨k, rfl, hk, rfl, rfl⟩ := hrel
    by_cases hlt : k < 21
    · have hat := HA.out k hlt
      have hbl := best_le k l
      have hbs : best (k + 1) l = if pre (signsL.getD k []) l = true then max (best k l) (signsL.getD k []).length else best k l := rfl
      have hsl : (signsL.getD k []).length ≤ 2 := by
        have := best_le (k + 1) (signsL.getD k [])
        rw [show best (k + 1) (signsL.getD k []) = if pre (signsL.getD k []) (signsL.getD k []) = true then max (best k (signsL.getD k [])) (signsL.getD k []).length else best k (signsL.getD k []) from rfl, if_pos ((Ent.pre_iff _ _).2 ⟨[], by simp⟩)] at this
        omega
      have hhas := fun b h w => has_any l (signsL.getD k []) b h w
      have HBS := hid hbs
      clear hbs
      generalize signsL.getD k [] = x at *
      have sx : (text x).size = x.length := text_size x
      have HH := hid hhas
      clear hhas
      generalize best k l = m at *
      cases hp : pre x l
      · have HP := hid hp
        clear hp
        go_wp2_with fail
        refine (HH.out _ HP.out _).mono ?_
        rintro e w2 ⟨rfl, rfl⟩
        go_wp2_with fail
        go_roundw
        case rel => exact ⟨k + 1, by go_num, by omega, by rw [HBS.out, if_neg (by rw [HP.out]; simp)], trivial⟩
        case measure => simp [intOf]; omega
      · have HP := hid hp
        clear hp
        go_wp2_with fail
        refine (HH.out _ HP.out _).mono ?_
        rintro e w2 ⟨rfl, rfl⟩
        go_wp2_with fail
        go_roundw
        case rel => exact ⟨k + 1, by go_num, by omega, by rw [HBS.out, if_pos HP.out]; congr 1; omega, trivial⟩
        case measure => simp [intOf]; omega
    · have hke : k = 21 := by omega
      subst hke
      rw [HB.out]
      go_wp2
      go_ret
      exact ⟨rfl, rfl⟩
end Go.Proofs.YtkmdclfkmmlloaaGreatDoor.Fx
namespace Go.Proofs.YtkmdclfkmmlloaaGreatDoor.Fx
open Go Go.Proofs.YtkmdclfkmmlloaaGreatDoor Go.Proofs.YtkmdclfkmmlloaaGreatDoor.Utf Go.Proofs.YtkmdclfkmmlloaaGreatDoor.Ent Go.RowKit
set_option maxRecDepth 100000

theorem lower_all : ((List.range 256).all fun n => decide (0 ≤ bits .or .u8 (n : Int) 32) && decide (bits .or .u8 (n : Int) 32 < 256) && (if 65 ≤ n ∧ n ≤ 90 then decide (bits .or .u8 (n : Int) 32 = (n : Int) + 32) else if 97 ≤ n ∧ n ≤ 122 then decide (bits .or .u8 (n : Int) 32 = (n : Int)) else !decide (97 ≤ bits .or .u8 (n : Int) 32 ∧ bits .or .u8 (n : Int) 32 ≤ 122))) = true := by decide +kernel
theorem lower_is (n : Nat) (h : n < 256) : ∃ y : Nat, bits .or .u8 (n : Int) 32 = (y : Int) ∧ y < 256 ∧ (65 ≤ n ∧ n ≤ 90 → y = n + 32) ∧ (97 ≤ n ∧ n ≤ 122 → y = n) ∧ (¬ (65 ≤ n ∧ n ≤ 90) → ¬ (97 ≤ n ∧ n ≤ 122) → ¬ (97 ≤ y ∧ y ≤ 122)) := by
  have h1 := List.all_eq_true.1 lower_all n (List.mem_range.2 h)
  simp only [Bool.and_eq_true, decide_eq_true_eq] at h1
  obtain ⟨⟨h0, h2⟩, h3⟩ := h1
  obtain ⟨y, hy⟩ := Int.eq_ofNat_of_zero_le h0
  refine ⟨y, hy, by omega, ?_⟩
  rw [hy] at h3
  by_cases c1 : 65 ≤ n ∧ n ≤ 90
  · rw [if_pos c1] at h3
    simp at h3
    exact ⟨fun _ => by omega, fun c => by omega, fun c => absurd c1 c⟩
  · rw [if_neg c1] at h3
    by_cases c2 : 97 ≤ n ∧ n ≤ 122
    · rw [if_pos c2] at h3
      simp at h3
      exact ⟨fun c => absurd c c1, fun _ => by omega, fun _ c => absurd c2 c⟩
    · rw [if_neg c2] at h3
      simp at h3
      exact ⟨fun c => absurd c c1, fun c => absurd c c2, fun _ _ => by omega⟩

theorem lower_any (n y : Nat) (h : bits .or .u8 (n : Int) 32 = (y : Int)) (w : World) :
    Calls Tryz.prog 194 #[.int .u8 n] w fun e w' => e = .returned (.int .u8 y) ∧ w = w' := by
  refine (Tryz.internal_strconv_lower (n : Int) w).mono ?_
  rintro e w' ⟨rfl, rfl⟩
  exact ⟨by rw [h], rfl⟩

/-- What the digits tell, or that they are none. -/
def puV (base : Nat) (l : List UInt8) : Value := if l.all (isd base) = true then .tuple #[.int .u64 (val base 0 l : Nat), .nilIface] else .tuple #[.int .u64 0, .iface 197 (.int .i64 2)]
theorem puV_no {base : Nat} {l : List UInt8} {k : Nat} (hk : k < l.length) (hd : isd base l[k] = false) : puV base l = .tuple #[.int .u64 0, .iface 197 (.int .i64 2)] := by
  unfold puV
  rw [if_neg]
  intro h
  have := List.all_eq_true.1 h l[k] (List.getElem_mem hk)
  rw [hd] at this; cases this

theorem lt4 {l : List UInt8} {k : Nat} (h : Digs 16 l k) (hk : k ≤ 4) : val 16 0 (l.take k) < 65536 := by
  have h2 := val_lt (base := 16) (by omega) (l.take k) 0 1 (by omega) (fun b hb => List.all_eq_true.1 h.2 b hb)
  have h3 : 16 ^ (l.take k).length ≤ 16 ^ 4 := Nat.pow_le_pow_right (by omega) (by rw [List.length_take]; omega)
  have h4 : 16 ^ 4 = 65536 := by decide
  omega

set_option maxHeartbeats 4000000 in
theorem inner_16 (l : List UInt8) (hl : l.length ≤ 4) (hne : l ≠ []) (w : World) :
    Calls Tryz.prog 174 #[.string (text l), .int .i64 16, .int .i64 16] w fun e w' => e = .returned (puV 16 l) ∧ Below w.heap.size w w' := by
  obtain ⟨v, w1, hcv, hv, hb1, _⟩ := conv_at (P := Tryz.prog) l (by omega) 9 53 5 under9 underB under8 w
  have hv1 := hv w1 rfl
  have hlen := fun W => hv1.len (P := Tryz.prog) 53 3 5 underB W
  have s1 : (text l).size = l.length := text_size l
  have hl0 : 0 < l.length := List.length_pos_iff.2 hne
  have he : ((text l).toList == ([] : List UInt8)) = false := by rw [text_list, beq_eq_false_iff_ne]; exact hne
  have HB := hid hb1
  have HV := hid hv1
  have HNE := hid hne
  clear hv hb1 hv1 hne
  go_enter Tryz.func174, Tryz.ntmps174
  go_wp2_with fail
  have HCV := hid hcv
  clear hcv he
  generalize hcut : (1152921504606846976 : Int) = cut
  have hcut2 : (4294967296 : Int) ≤ cut := by omega
  clear hcut
  go_loop [12, 13, 101] (fun us x i => us = .bool false ∧ ∃ k : Nat, i = .int .i64 k ∧ Digs 16 l k ∧ x = .int .u64 (val 16 0 (l.take k) : Nat)) (fun _ _ i => l.length - (intOf i).toNat)
  case atStart => exact ⟨rfl, 0, rfl, Digs.start _ _, rfl⟩
  case round =>
    obtain ⟨rfl, k, rfl, hD, rfl⟩ := hrel
    have hk7 := hD.1
    have hv := lt4 hD (by omega)
    have HD := hid hD
    clear hD
    generalize hx : val 16 0 (l.take k) = x at *
    have HX := hid hx
    clear hx
    by_cases hlt : k < l.length
    · obtain ⟨b, o, hat, hcl⟩ := HV.out.at (P := Tryz.prog) k hlt 53 5 underB size8
      have hbyte : l[k].toNat < 256 := UInt8.toNat_lt l[k]
      obtain ⟨y, hy, hy1, hy2, hy3, hy4⟩ := lower_is l[k].toNat (by omega)
      have hlow := fun w => lower_any l[k].toNat y hy w
      have HL := hid hlow
      have hgood : isd 16 l[k] = true → Digs 16 l (k + 1) ∧ val 16 0 (l.take (k + 1)) = 16 * x + dv l[k].toNat := fun hd => by
        have := HD.out.next hlt hd
        rwa [HX.out] at this
      have hbad : isd 16 l[k] = false → puV 16 l = _ := puV_no hlt
      have hisd : isd 16 l[k] = decide (dv l[k].toNat < 16) := rfl
      have hdv : dv l[k].toNat = if 48 ≤ l[k].toNat ∧ l[k].toNat ≤ 57 then l[k].toNat - 48 else if 97 ≤ l[k].toNat ∧ l[k].toNat ≤ 102 then l[k].toNat - 87 else if 65 ≤ l[k].toNat ∧ l[k].toNat ≤ 70 then l[k].toNat - 55 else 99 := rfl
      generalize l[k].toNat = n at *
      generalize dv n = d at *
      generalize isd 16 l[k] = q at *
      clear hy hlow
      have H2 := hid hy2
      have H3 := hid hy3
      have H4 := hid hy4
      have HG := hid hgood
      have HBD := hid hbad
      have HQ := hid hisd
      have HDV := hid hdv
      clear hy2 hy3 hy4 hgood hbad hisd hdv
      by_cases c1 : 48 ≤ n ∧ n ≤ 57
      · have hd : d = n - 48 := by have := HDV.out; rw [if_pos c1] at this; exact this
        have hq : q = true := by rw [HQ.out, decide_eq_true_eq]; omega
        obtain ⟨g1, g2⟩ := HG.out hq
        obtain ⟨c1a, c1b⟩ := c1
        have hsum : ((n : Int) - 48) = (d : Int) := by omega
        have hd9 : d ≤ 9 := by omega
        have hnext := lt4 g1 (by omega)
        have t3 : (x : Int) * 16 + ((n : Int) - 48) ≤ 65535 := by omega
        have t4 : ¬ (65535 : Int) < (x : Int) * 16 + ((n : Int) - 48) := by omega
        have t5 : ¬ ((x : Int) * 16 + ((n : Int) - 48) < (x : Int) * 16) := by omega
        have c1c : (n : Int) ≤ 57 := by omega
        have c1d : (48 : Int) ≤ (n : Int) := by omega
        have c95 : ((n : Int) == 95) = false := by rw [beq_eq_false_iff_ne]; omega
        have t6 : ¬ (16 : Int) ≤ (n : Int) - 48 := by omega
        clear hnext
        have G1 := hid g1
        have G2 := hid g2
        have HS := hid hsum
        clear g1 g2 hq hsum hd
        go_wp2_with fail
        all_goals
          go_round
          case rel => exact ⟨rfl, k + 1, by go_num, G1.out, by rw [G2.out]; have := HS.out; congr 1; omega⟩
          case measure => simp [intOf]; omega
      · by_cases c2 : (65 ≤ n ∧ n ≤ 90) ∨ (97 ≤ n ∧ n ≤ 122)
        · have hyy : 97 ≤ y ∧ y ≤ 122 := by
            rcases c2 with c2 | c2
            · have := H2.out c2; omega
            · have := H3.out c2; omega
          have hd : d = if y ≤ 102 then y - 87 else 99 := by
            have := HDV.out; rw [if_neg c1] at this; rw [this]
            rcases c2 with c2 | c2
            · have := H2.out c2
              rw [if_neg (by omega)]
              by_cases z : n ≤ 70
              · rw [if_pos (by omega), if_pos (by omega)]; omega
              · rw [if_neg (by omega), if_neg (by omega)]
            · have := H3.out c2
              by_cases z : n ≤ 102
              · rw [if_pos (by omega), if_pos (by omega)]; omega
              · rw [if_neg (by omega), if_neg (by omega), if_neg (by omega)]
          obtain ⟨hy97, hy122⟩ := hyy
          have hyc : (97 : Int) ≤ (y : Int) := by omega
          have hyd : (y : Int) ≤ 122 := by omega
          have c1' : ¬ ((48 : Int) ≤ (n : Int) ∧ (n : Int) ≤ 57) := by omega
          have c95 : ((n : Int) == 95) = false := by rw [beq_eq_false_iff_ne]; omega
          have hn57 : ¬ ((n : Int) ≤ 57) := by omega
          by_cases c3 : y - 87 < 16
          · have hd2 : d = y - 87 := by rw [hd, if_pos (by omega)]
            have hq : q = true := by rw [HQ.out, decide_eq_true_eq]; omega
            obtain ⟨g1, g2⟩ := HG.out hq
            have G1 := hid g1
            have G2 := hid g2
            have HS := hid hd2
            clear g1 g2 hq hd2 hd c1 c2 c1'
            have hnext := lt4 G1.out (by omega)
            rw [G2.out, HS.out] at hnext
            have t3 : (x : Int) * 16 + ((y : Int) - 97 + 10) ≤ 65535 := by omega
            have t4 : ¬ (65535 : Int) < (x : Int) * 16 + ((y : Int) - 97 + 10) := by omega
            have t5 : ¬ ((x : Int) * 16 + ((y : Int) - 97 + 10) < (x : Int) * 16) := by omega
            clear hnext
            have t2 : ¬ (16 : Int) ≤ (y : Int) - 97 + 10 := by omega
            go_wp2_with fail
            refine (HL.out _).mono ?_
            rintro e w2 ⟨rfl, rfl⟩
            go_wp2_with fail
            refine (HL.out _).mono ?_
            rintro e w2 ⟨rfl, rfl⟩
            go_wp2_with fail
            refine (HL.out _).mono ?_
            rintro e w2 ⟨rfl, rfl⟩
            go_wp2_with fail
            all_goals
              go_round
              case rel => exact ⟨rfl, k + 1, by go_num, G1.out, by rw [G2.out]; have := HS.out; congr 1; omega⟩
              case measure => simp [intOf]; omega
          · have hq : q = false := by rw [HQ.out, decide_eq_false_iff_not, hd]; split <;> omega
            have hp := HBD.out hq
            have HP := hid hp
            clear hq hp hd c1 c2 c1'
            have t2 : (16 : Int) ≤ (y : Int) - 97 + 10 := by omega
            go_wp2_with fail
            refine (HL.out _).mono ?_
            rintro e w2 ⟨rfl, rfl⟩
            go_wp2_with fail
            refine (HL.out _).mono ?_
            rintro e w2 ⟨rfl, rfl⟩
            go_wp2_with fail
            refine (HL.out _).mono ?_
            rintro e w2 ⟨rfl, rfl⟩
            go_wp2_with fail
            all_goals
              go_ret2
              exact ⟨by rw [HP.out]; rfl, HB.out⟩
        · have hd : d = 99 := by
            have := HDV.out
            rw [if_neg c1, if_neg (by omega), if_neg (by omega)] at this; exact this
          have hq : q = false := by rw [HQ.out, decide_eq_false_iff_not]; omega
          have hp := HBD.out hq
          have hyn := H4.out (by omega) (by omega)
          have HP := hid hp
          clear hq hp hd c2
          have t1 : ¬ ((48 : Int) ≤ (n : Int) ∧ (n : Int) ≤ 57) := by omega
          have t2 : ¬ ((97 : Int) ≤ (y : Int) ∧ (y : Int) ≤ 122) := by omega
          clear c1 hyn
          rcases Bool.eq_false_or_eq_true ((n : Int) == 95) with h95 | h95
          all_goals
            by_cases z1 : (97 : Int) ≤ (y : Int)
            · have z2 : ¬ (y : Int) ≤ 122 := by omega
              clear t2
              by_cases z3 : (48 : Int) ≤ (n : Int)
              · have z4 : ¬ (n : Int) ≤ 57 := by omega
                clear t1
                go_wp2_with fail
                all_goals
                  refine (HL.out _).mono ?_
                  rintro e w2 ⟨rfl, rfl⟩
                  go_wp2_with fail
                  refine (HL.out _).mono ?_
                  rintro e w2 ⟨rfl, rfl⟩
                  go_wp2_with fail
                  go_ret2
                  exact ⟨by rw [HP.out]; rfl, HB.out⟩
              · clear t1
                go_wp2_with fail
                all_goals
                  refine (HL.out _).mono ?_
                  rintro e w2 ⟨rfl, rfl⟩
                  go_wp2_with fail
                  refine (HL.out _).mono ?_
                  rintro e w2 ⟨rfl, rfl⟩
                  go_wp2_with fail
                  go_ret2
                  exact ⟨by rw [HP.out]; rfl, HB.out⟩
            · clear t2
              by_cases z3 : (48 : Int) ≤ (n : Int)
              · have z4 : ¬ (n : Int) ≤ 57 := by omega
                clear t1
                go_wp2_with fail
                all_goals
                  refine (HL.out _).mono ?_
                  rintro e w2 ⟨rfl, rfl⟩
                  go_wp2_with fail
                  go_ret2
                  exact ⟨by rw [HP.out]; rfl, HB.out⟩
              · clear t1
                go_wp2_with fail
                all_goals
                  refine (HL.out _).mono ?_
                  rintro e w2 ⟨rfl, rfl⟩
                  go_wp2_with fail
                  go_ret2
                  exact ⟨by rw [HP.out]; rfl, HB.out⟩
    · have hkl : k = l.length := by omega
      have hall : l.all (isd 16) = true := by
        have := HD.out.2
        rwa [hkl, List.take_length] at this
      have hval : val 16 0 l = x := by rw [← HX.out, hkl, List.take_length]
      have HA := hid hall
      have HVA := hid hval
      clear hkl hall hval
      go_wp2
      go_ret2
      exact ⟨by unfold puV; rw [if_pos HA.out, HVA.out]; rfl, HB.out⟩



/-- The library's error is one. -/
def Errs (w : World) : Prop := ∃ ev, w.cell? ⟨3, 0, none⟩ = some ev ∧ (ev = .nilIface ∨ ∃ te pe, ev = .iface te pe)
theorem Errs.below {w w' : World} (h : Errs w) {B : Nat} (hb : Below B w w') (hB : w.heap.size ≤ B) : Errs w' := by
  obtain ⟨ev, h1, h2⟩ := h
  have hlt := World.block_lt_of_cell? _ _ h1
  exact ⟨ev, by rw [hb.cell (p := ⟨_, 0, none⟩) (Nat.lt_of_lt_of_le hlt hB)]; exact h1, h2⟩

set_option maxHeartbeats 1000000 in
theorem ParseUint_yes (l : List UInt8) (hl : l.length ≤ 4) (hne : l ≠ []) (h : l.all (isd 16) = true) (w : World) :
    Calls Tryz.prog 143 #[.string (text l), .int .i64 16, .int .i64 16] w fun e w' => e = .returned (.tuple #[.int .u64 (val 16 0 l : Nat), .nilIface]) ∧ Below w.heap.size w w' := by
  have hi := fun w => inner_16 l hl hne w
  unfold puV at hi
  rw [if_pos h] at hi
  have HI := hid hi
  clear hi h hne
  go_enter Tryz.func143, Tryz.ntmps143
  go_wp2_with fail
  refine (HI.out _).mono ?_
  rintro e w1 ⟨rfl, hb1⟩
  go_wp2
  go_ret2
  exact ⟨rfl, hb1⟩

set_option maxHeartbeats 1000000 in
theorem ParseUint_no (l : List UInt8) (hl : l.length ≤ 4) (hne : l ≠ []) (h : ¬ l.all (isd 16) = true) (w : World) (hE : Errs w) :
    Calls Tryz.prog 143 #[.string (text l), .int .i64 16, .int .i64 16] w fun e w' => ∃ N, e = .returned (.tuple #[.int .u64 0, .iface 199 (.pointer (some ⟨N, 0, none⟩))]) ∧ Below w.heap.size w w' := by
  have hsz : (text l).size ≤ 281474976710656 := by rw [text_size]; omega
  have hi := fun w => inner_16 l hl hne w
  unfold puV at hi
  rw [if_neg h] at hi
  have ht := fun w (hE : Errs w) => (show Calls Tryz.prog 175 #[.string ⟨#[80, 97, 114, 115, 101, 85, 105, 110, 116]⟩, .string (text l), .int .i64 16, .int .i64 16, .iface 197 (.int .i64 2)] w fun e w' => ∃ N, e = .returned (.iface 199 (.pointer (some ⟨N, 0, none⟩))) ∧ Below w.heap.size w w' by
    obtain ⟨ev, h1, h2⟩ := hE
    refine (Tryz.strconv_toError_syntax _ (text l) 16 16 ev w hsz h1 h2).mono ?_
    rintro e w' ⟨N, rfl, _, _, hb⟩
    exact ⟨N, rfl, hb⟩)
  have HI := hid hi
  have HT := hid ht
  have HE := hid hE
  clear hi ht h hE hsz hne
  go_enter Tryz.func143, Tryz.ntmps143
  go_wp2_with fail
  refine (HI.out _).mono ?_
  rintro e w1 ⟨rfl, hb1⟩
  go_wp2_with fail
  refine (HT.out _ (HE.out.below hb1 (Nat.le_refl _))).mono ?_
  rintro e w2 ⟨N, rfl, hb2⟩
  go_wp2
  go_ret2
  exact ⟨N, rfl, bt hb1 hb2⟩

theorem hexV_dv (n : Nat) : Fl.hexV n = if dv n < 16 then some (dv n) else none := by
  unfold Fl.hexV dv
  by_cases h1 : 48 ≤ n ∧ n ≤ 57
  · rw [if_pos h1, if_pos h1, if_pos (by omega)]
  · rw [if_neg h1, if_neg h1]
    by_cases h2 : 97 ≤ n ∧ n ≤ 102
    · rw [if_pos h2, if_pos h2, if_pos (by omega)]
    · rw [if_neg h2, if_neg h2]
      by_cases h3 : 65 ≤ n ∧ n ≤ 70
      · rw [if_pos h3, if_pos h3, if_pos (by omega)]
      · rw [if_neg h3, if_neg h3, if_neg (by omega)]
theorem hexF_is : ∀ (k x : Nat) (l : List UInt8), Fl.hexF k x l = if k ≤ l.length ∧ (l.take k).all (isd 16) = true then some (val 16 x (l.take k)) else none
  | 0, x, l => by rw [if_pos ⟨Nat.zero_le _, by simp⟩]; rfl
  | k + 1, x, [] => by rw [if_neg (by simp)]; rfl
  | k + 1, x, b :: r => by
    have ih := hexF_is k (16 * x + dv b.toNat) r
    unfold Fl.hexF
    rw [hexV_dv]
    by_cases h : dv b.toNat < 16
    · rw [if_pos h]
      simp only []
      rw [ih, List.take_succ_cons, List.all_cons, (isd_iff 16 b).2 h, Bool.true_and, List.length_cons]
      by_cases c : k ≤ r.length ∧ (r.take k).all (isd 16) = true
      · rw [if_pos c, if_pos ⟨by omega, c.2⟩]; rfl
      · rw [if_neg c, if_neg (fun h => c ⟨by omega, h.2⟩)]
    · rw [if_neg h]
      simp only []
      rw [if_neg]
      rintro ⟨_, h2⟩
      rw [List.take_succ_cons, List.all_cons, Bool.and_eq_true] at h2
      exact h ((isd_iff 16 b).1 h2.1)
theorem hex4_is (l : List UInt8) : Fl.hex4 l = if 4 ≤ l.length ∧ (l.take 4).all (isd 16) = true then some (val 16 0 (l.take 4)) else none := hexF_is 4 0 l
/-- The character of four digits, and how many bytes belong to it with what stands ahead. -/
def numP (l : List UInt8) : Nat × Nat := match Fl.hex4 l with | some x => if fine (x : Int) = true then (x, 6) else (0, 0) | none => (0, 0)

set_option maxHeartbeats 1000000 in
theorem numbered_any (l : List UInt8) (hl : l.length ≤ 1000000000) (w : World) (hE : Errs w) :
    Calls Tryz.prog 116 #[.string (text l)] w fun e w' => e = .returned (.tuple #[.int .i32 (numP l).1, .int .i64 (numP l).2]) ∧ Below w.heap.size w w' := by
  have s1 : (text l).size = l.length := text_size l
  have hx4 := hex4_is l
  by_cases hlen : 4 ≤ l.length
  · have hx : (text l).extract 0 4 = text (l.take 4) := by rw [text_cut]; rfl
    have hl4 : (l.take 4).length = 4 := by rw [List.length_take]; omega
    have hne : l.take 4 ≠ [] := fun e => by rw [e] at hl4; cases hl4
    by_cases hok : (l.take 4).all (isd 16) = true
    · rw [if_pos ⟨hlen, hok⟩] at hx4
      have hp := fun w => ParseUint_yes (l.take 4) (by omega) hne hok w
      have hv2 : val 16 0 (l.take 4) < 65536 := lt4 ⟨hlen, hok⟩ (by omega)
      have hF := fun w => Fine_any (val 16 0 (l.take 4) : Nat) w
      have hnd : numP l = if fine (val 16 0 (l.take 4) : Nat) = true then (val 16 0 (l.take 4), 6) else (0, 0) := by
        unfold numP; rw [hx4]
      generalize val 16 0 (l.take 4) = x at *
      have HP := hid hp
      have HN := hid hnd
      clear hp hnd hok hx4 hne hl4
      generalize l.take 4 = q at *
      by_cases hf : fine (x : Int) = true
      · rw [hf] at hF
        have HF := hid hF
        have HH := hid hf
        clear hF hf
        go_enter Tryz.func116, Tryz.ntmps116
        go_wp2_with fail
        refine (HP.out _).mono ?_
        rintro e w1 ⟨rfl, hb1⟩
        go_wp2_with fail
        refine (HF.out _).mono ?_
        rintro e w2 ⟨rfl, rfl⟩
        go_wp2
        go_ret2
        exact ⟨by rw [HN.out, if_pos HH.out]; rfl, hb1⟩
      · have hf' : fine (x : Int) = false := by simpa using hf
        rw [hf'] at hF
        have HF := hid hF
        have HH := hid hf
        clear hF hf hf'
        go_enter Tryz.func116, Tryz.ntmps116
        go_wp2_with fail
        refine (HP.out _).mono ?_
        rintro e w1 ⟨rfl, hb1⟩
        go_wp2_with fail
        refine (HF.out _).mono ?_
        rintro e w2 ⟨rfl, rfl⟩
        go_wp2
        go_ret2
        exact ⟨by rw [HN.out, if_neg HH.out]; rfl, hb1⟩
    · have hp := fun w hE => ParseUint_no (l.take 4) (by omega) hne hok w hE
      rw [if_neg (fun h => hok h.2)] at hx4
      have hnd : numP l = (0, 0) := by unfold numP; rw [hx4]
      have HP := hid hp
      have HN := hid hnd
      have HE := hid hE
      clear hp hnd hok hE hx4 hne hl4
      generalize l.take 4 = q at *
      go_enter Tryz.func116, Tryz.ntmps116
      go_wp2_with fail
      refine (HP.out _ HE.out).mono ?_
      rintro e w1 ⟨N, rfl, hb1⟩
      go_wp2
      go_ret2
      exact ⟨by rw [HN.out]; rfl, hb1⟩
  · rw [if_neg (fun h => hlen h.1)] at hx4
    have hnd : numP l = (0, 0) := by unfold numP; rw [hx4]
    have HN := hid hnd
    clear hnd hE hx4
    go_enter Tryz.func116, Tryz.ntmps116
    go_wp2
    go_ret2
    exact ⟨by rw [HN.out]; rfl, b0 _⟩
end Go.Proofs.YtkmdclfkmmlloaaGreatDoor.Fx
namespace Go.Proofs.YtkmdclfkmmlloaaGreatDoor.Fx
open Go Go.Proofs.YtkmdclfkmmlloaaGreatDoor Go.Proofs.YtkmdclfkmmlloaaGreatDoor.Utf Go.Proofs.YtkmdclfkmmlloaaGreatDoor.Names Go.Proofs.YtkmdclfkmmlloaaGreatDoor.Ent Go.Proofs.YtkmdclfkmmlloaaGreatDoor.Fl Go.RowKit
set_option maxRecDepth 100000

/-- Which of the five it is; -1: none. -/
def ixOf (b : UInt8) : Int := Lib.indexByte [34, 92, 110, 114, 116] b
theorem index_any (b : UInt8) (w : World) : Calls Tryz.prog 117 #[.string ⟨#[34, 92, 110, 114, 116]⟩, .int .u8 b.toNat] w fun e w' => e = .returned (.int .i64 (ixOf b)) ∧ w = w' := by
  refine (Tryz.strings_IndexByte ⟨#[34, 92, 110, 114, 116]⟩ b.toNat w).mono ?_
  rintro e w' ⟨rfl, rfl⟩
  refine ⟨?_, rfl⟩
  have : UInt8.ofNat (b.toNat : Int).toNat = b := by rw [Int.toNat_natCast, UInt8.ofNat_toNat]
  first | rw [this]; rfl | (simp only [this]; rfl) | (simp [ixOf])
/-- What the character behind a backslash tells, but for u. -/
def fiveN (i : Int) : Nat := if i = 0 then 34 else if i = 1 then 92 else if i = 2 then 10 else if i = 3 then 13 else 9
theorem ix_all : ((List.range 256).all fun n => decide (-1 ≤ ixOf (UInt8.ofNat n)) && decide (ixOf (UInt8.ofNat n) ≤ 4) && (UInt8.ofNat n == 117 || decide (escN [UInt8.ofNat n] = if ixOf (UInt8.ofNat n) < 0 then none else some (fiveN (ixOf (UInt8.ofNat n)), 1)))) = true := by decide +kernel
theorem ix_facts (b : UInt8) : -1 ≤ ixOf b ∧ ixOf b ≤ 4 ∧ (b ≠ 117 → ∀ r, escN (b :: r) = if ixOf b < 0 then none else some (fiveN (ixOf b), 1)) := by
  have h := List.all_eq_true.1 ix_all b.toNat (List.mem_range.2 (UInt8.toNat_lt b))
  rw [UInt8.ofNat_toNat] at h
  simp only [Bool.and_eq_true, decide_eq_true_eq, Bool.or_eq_true, beq_iff_eq] at h
  refine ⟨h.1.1, h.1.2, fun hb r => ?_⟩
  have h2 := h.2.resolve_left hb
  rw [← h2, escN_cons, escN_cons, if_neg hb, if_neg hb]
theorem esc_u (r : List UInt8) : escN (117 :: r) = (match hex4 r with | some x => if fine (x : Int) = true then some (x, 5) else none | none => none) := by
  rw [escN_cons, if_neg (by decide), if_neg (by decide), if_neg (by decide), if_neg (by decide), if_neg (by decide), if_pos rfl]
  cases hex4 r <;> rfl
/-- The character, and how many bytes belong to it with the backslash. -/
def escP (r : List UInt8) : Nat × Nat := match escN r with | some (c, k) => (c, 1 + k) | none => (0, 0)
theorem escP_u (r : List UInt8) : escP (117 :: r) = numP r := by
  unfold escP numP
  rw [esc_u]
  cases hex4 r with
  | none => rfl
  | some x =>
    simp only []
    by_cases h : fine (x : Int) = true
    · rw [if_pos h, if_pos h]
    · rw [if_neg h, if_neg h]
theorem five_at (i : Nat) (h : i < 5) (W : World) : (Instr.index 9 (.string ⟨#[34, 92, 10, 13, 9]⟩) (.int .i64 i)).run Tryz.prog W = .ok (.int .u8 (fiveN i : Nat)) W := by
  rcases (by omega : i = 0 ∨ i = 1 ∨ i = 2 ∨ i = 3 ∨ i = 4) with rfl | rfl | rfl | rfl | rfl
  all_goals kernel_rfl
theorem fiveN_le (i : Int) : fiveN i ≤ 92 := by unfold fiveN; repeat' split
                                                all_goals omega

set_option maxHeartbeats 1000000 in
theorem escape_any (r : List UInt8) (hl : r.length ≤ 1000000000) (w : World) (hE : Errs w) :
    Calls Tryz.prog 78 #[.string (text (92 :: r))] w fun e w' => e = .returned (.tuple #[.int .i32 (escP r).1, .int .i64 (escP r).2]) ∧ Below w.heap.size w w' := by
  have s1 : (text (92 :: r)).size = r.length + 1 := by rw [text_size]; rfl
  rcases r with _ | ⟨b, q⟩
  · have hp : pre [92, 117] [92] = false := by decide
    have hc := fun a ha w => cut_no [92] [92, 117] hp a ha w
    have hP : escP [] = (0, 0) := rfl
    have HC := hid hc
    have HP := hid hP
    simp only [List.length_nil, Nat.zero_add] at s1
    clear hp hc hP hE
    go_enter Tryz.func78, Tryz.ntmps78
    go_wp2_with fail
    refine (HC.out _ (by decide) _).mono ?_
    rintro e w1 ⟨rfl, rfl⟩
    go_wp2
    go_ret2
    exact ⟨by rw [HP.out]; rfl, b0 _⟩
  · simp only [List.length_cons] at s1 hl
    by_cases hb : b = 117
    · subst hb
      have hp : pre [92, 117] (92 :: 117 :: q) = true := (Ent.pre_iff _ _).2 ⟨q, rfl⟩
      have hc := fun a ha w => cut_yes (92 :: 117 :: q) [92, 117] hp a ha w
      have hn := fun w hE => numbered_any q (by omega) w hE
      rw [← escP_u] at hn
      have HC := hid hc
      have HN := hid hn
      have HE := hid hE
      clear hp hc hn hE s1
      generalize escP (117 :: q) = z at *
      go_enter Tryz.func78, Tryz.ntmps78
      go_wp2_with fail
      refine (HC.out _ (by decide) _).mono ?_
      rintro e w1 ⟨rfl, rfl⟩
      go_wp2_with fail
      refine (HN.out _ HE.out).mono ?_
      rintro e w2 ⟨rfl, hb2⟩
      go_wp2
      go_ret2
      exact ⟨rfl, hb2⟩
    · have hp : pre [92, 117] (92 :: b :: q) = false := by
        cases h1 : pre [92, 117] (92 :: b :: q)
        · rfl
        · obtain ⟨m, h⟩ := (Ent.pre_iff _ _).1 h1
          injection h with _ h; injection h with h _
          exact absurd h hb
      have hc := fun a ha w => cut_no (92 :: b :: q) [92, 117] hp a ha w
      obtain ⟨f1, f2, f3⟩ := ix_facts b
      have hi := fun w => index_any b w
      have hps : 1 < (text (92 :: b :: q)).size := by rw [s1]; omega
      have hbyte : (text (92 :: b :: q))[1]'hps = b := by simp [text]; rfl
      have HC := hid hc
      have HI := hid hi
      have HB := hid (f3 hb q)
      clear hp hc hi hb f3 hE
      have HBY := hid hbyte
      generalize ixOf b = i at *
      by_cases hneg : i < 0
      · have hP : escP (b :: q) = (0, 0) := by unfold escP; rw [HB.out, if_pos hneg]
        have HP := hid hP
        clear hP
        go_enter Tryz.func78, Tryz.ntmps78
        go_wp2_with fail
        refine (HC.out _ (by decide) _).mono ?_
        rintro e w1 ⟨rfl, rfl⟩
        go_wp2_with fail
        refine (HI.out _).mono ?_
        rintro e w2 ⟨rfl, rfl⟩
        go_wp2
        go_ret2
        exact ⟨by rw [HP.out]; rfl, b0 _⟩
      · obtain ⟨k, rfl⟩ := Int.eq_ofNat_of_zero_le (by omega : 0 ≤ i)
        have h5 := fun W => five_at k (by omega) W
        have hP : escP (b :: q) = (fiveN k, 2) := by unfold escP; rw [HB.out, if_neg hneg]
        have hle := fiveN_le k
        have HP := hid hP
        clear hP
        generalize fiveN (k : Int) = c at *
        go_enter Tryz.func78, Tryz.ntmps78
        go_wp2_with fail
        refine (HC.out _ (by decide) _).mono ?_
        rintro e w1 ⟨rfl, rfl⟩
        go_wp2_with fail
        refine (HI.out _).mono ?_
        rintro e w2 ⟨rfl, rfl⟩
        go_wp2
        go_ret2
        exact ⟨by rw [HP.out]; rfl, b0 _⟩
end Go.Proofs.YtkmdclfkmmlloaaGreatDoor.Fx
namespace Go.Proofs.YtkmdclfkmmlloaaGreatDoor.Fx
open Go Go.Proofs.YtkmdclfkmmlloaaGreatDoor Go.Proofs.YtkmdclfkmmlloaaGreatDoor.Utf Go.Proofs.YtkmdclfkmmlloaaGreatDoor.Names Go.Proofs.YtkmdclfkmmlloaaGreatDoor.Ent Go.Proofs.YtkmdclfkmmlloaaGreatDoor.Fl Go.RowKit
set_option maxRecDepth 100000

theorem chk_snd (x k : Nat) : (chk x k).2 = 0 ∨ (chk x k).2 = k := by
  rcases chk_cases x k with h | ⟨h, _⟩
  · rw [h]; exact .inl rfl
  · rw [h]; exact .inr rfl
theorem runeN_cont (n b0 b1 b2 b3 : Nat) : (1 < (runeN n b0 b1 b2 b3).2 → b1 / 64 = 2) ∧ (2 < (runeN n b0 b1 b2 b3).2 → b2 / 64 = 2) ∧ (3 < (runeN n b0 b1 b2 b3).2 → b3 / 64 = 2) := by
  unfold runeN
  by_cases e0 : n = 0
  · rw [if_pos e0]; simp
  rw [if_neg e0]
  by_cases e1 : b0 < 128
  · rw [if_pos e1]; have := chk_snd b0 1; omega
  rw [if_neg e1]
  by_cases e2 : b0 < 192
  · rw [if_pos e2]; simp
  rw [if_neg e2]
  by_cases e3 : b0 < 224
  · rw [if_pos e3]
    by_cases c : 2 ≤ n ∧ b1 / 64 = 2
    · rw [if_pos c]; have := chk_snd ((b0 - 192) * 64 + (b1 - 128)) 2; omega
    · rw [if_neg c]; simp
  rw [if_neg e3]
  by_cases e4 : b0 < 240
  · rw [if_pos e4]
    by_cases c : 3 ≤ n ∧ b1 / 64 = 2 ∧ b2 / 64 = 2
    · rw [if_pos c]; have := chk_snd ((b0 - 224) * 4096 + (b1 - 128) * 64 + (b2 - 128)) 3; omega
    · rw [if_neg c]; simp
  rw [if_neg e4]
  by_cases e5 : b0 < 248
  · rw [if_pos e5]
    by_cases c : 4 ≤ n ∧ b1 / 64 = 2 ∧ b2 / 64 = 2 ∧ b3 / 64 = 2
    · rw [if_pos c]; have := chk_snd (val4 b0 b1 b2 b3) 4; omega
    · rw [if_neg c]; simp
  rw [if_neg e5]; simp
/-- Within a character none begins. -/
theorem rune_within {l : List UInt8} {j : Nat} (h0 : 0 < j) (hj : j < (rune l).2) : (rune (l.drop j)).2 = 0 := by
  have h4 := rune_le l
  have hc := runeN_cont l.length (nth l 0) (nth l 1) (nth l 2) (nth l 3)
  have hb : nth l j / 64 = 2 := by
    rcases (by omega : j = 1 ∨ j = 2 ∨ j = 3) with rfl | rfl | rfl
    · exact hc.1 hj
    · exact hc.2.1 hj
    · exact hc.2.2 hj
  have hd : nth (l.drop j) 0 = nth l j := by rw [nth_drop, Nat.add_zero]
  unfold rune runeN
  rw [hd]
  by_cases e0 : (l.drop j).length = 0
  · rw [if_pos e0]
  · rw [if_neg e0, if_neg (by omega), if_pos (by omega)]

/-- A place between characters, from which on all is right. -/
def Edge (l : List UInt8) (p : Nat) : Prop := p ≤ l.length ∧ check (l.drop p) = (l.drop p).length
theorem Edge.start {l : List UInt8} (h : check l = l.length) : Edge l 0 := ⟨Nat.zero_le _, by simpa using h⟩
theorem Edge.step {l : List UInt8} {pos : Nat} (h : Edge l pos) (hp : pos < l.length) :
    (rune (l.drop pos)).2 ≠ 0 ∧ fine ((rune (l.drop pos)).1 : Int) = true ∧ Edge l (pos + (rune (l.drop pos)).2) ∧ Utf8.decode (text l) pos = rune (l.drop pos) := by
  obtain ⟨h1, h2⟩ := h
  have hr := rune_le (l.drop pos)
  have hne : (rune (l.drop pos)).2 ≠ 0 := by
    intro e
    rw [check_stop e] at h2
    simp at h2; omega
  obtain ⟨hf, _⟩ := rune_some (l := l.drop pos) (c := (rune (l.drop pos)).1) (k := (rune (l.drop pos)).2) rfl hne
  have hck : check (l.drop (pos + (rune (l.drop pos)).2)) = (l.drop (pos + (rune (l.drop pos)).2)).length := by
    rw [check_step hne, List.drop_drop] at h2
    simp only [List.length_drop] at h2 hr ⊢
    omega
  refine ⟨hne, hf, ⟨by simp only [List.length_drop] at hr; omega, hck⟩, ?_⟩
  rcases decode_rune l pos hp with ⟨z, _⟩ | ⟨_, _, e⟩
  · exact absurd z hne
  · exact e
/-- A step from one goes over none. -/
theorem Edge.over {l : List UInt8} {pos q : Nat} (h : Edge l pos) (k : Edge l q) (hlt : pos < q) : pos + (rune (l.drop pos)).2 ≤ q := by
  refine Classical.byContradiction fun hh => ?_
  have hr := (rune_le (l.drop pos)).1
  rw [List.length_drop] at hr
  have hw := rune_within (l := l.drop pos) (j := q - pos) (by omega) (by omega)
  rw [List.drop_drop, show pos + (q - pos) = q from by omega] at hw
  have := check_stop hw
  have h2 := k.2
  rw [this, List.length_drop] at h2
  have := k.1
  omega
theorem Edge.behind {l : List UInt8} {pos n : Nat} (h : Edge l pos) (hn : pos + n ≤ l.length) (hc : check ((l.drop pos).drop n) = ((l.drop pos).drop n).length) : Edge l (pos + n) := by
  rw [List.drop_drop] at hc
  exact ⟨hn, hc⟩

theorem is_iterAt {C b k : Nat} {l : List UInt8} {w : World} (h : Bld.Is C b l w) (hk : k < C) (hkb : k ≠ b) (s : ByteArray) (pos : Nat) : Bld.Is C b l (w.iterAt k s pos) := by
  have key : ∀ p, Bld.At C b p l w → Bld.At C b p l (w.iterAt k s pos) := by
    rintro p ⟨h1, v, h2, h3⟩
    refine ⟨h1, v, by rw [Lib.iterAt_other w k b s pos (fun e => hkb e.symm)]; exact h2, ?_⟩
    exact h3.kept (row := some k) ⟨rfl, rfl, rfl, by rw [Lib.iterAt_size]; exact Nat.le_refl _, fun j _ hj => Lib.iterAt_other w k j s pos (fun e => hj (by rw [e]))⟩ (.inr (fun e => by have := (h3.lt k e).1; omega))
  exact h.elim (fun x => .inl (key _ x)) (fun x => .inr (key _ x))

/-! ### What a text in quotes tells -/
theorem str_same (m : List UInt8) : put [] 0 (str m) = str m := (str_qs [] m).symm
theorem str_error {m : List UInt8} (h : (str m).2.2 ≠ 0) : (str m).1 = [] := by
  have := str_same m
  unfold put at this
  rw [if_neg h] at this
  rw [← this]
theorem str_plain : ∀ (x y : List UInt8), (∀ b ∈ x, b ≠ 34 ∧ b ≠ 92) → str (x ++ y) = put x x.length (str y)
  | [], y, _ => (str_same y).symm
  | b :: r, y, h => by
    have h1 := h b (List.mem_cons_self ..)
    show str (b :: (r ++ y)) = _
    rw [str_self _ h1.1 h1.2, str_plain r y (fun c hc => h c (List.mem_cons_of_mem _ hc)), put_put, List.length_cons, Nat.add_comm 1]
    rfl
theorem str_rune {m : List UInt8} (h : (rune m).2 ≠ 0) (h1 : (rune m).1 ≠ 34) (h2 : (rune m).1 ≠ 92) : str m = put (enc ((rune m).1 : Int)) (rune m).2 (str (m.drop (rune m).2)) := by
  have ht := Ent.rune_take m h
  have hle := (rune_le m).1
  have hall : ∀ b ∈ m.take (rune m).2, b ≠ 34 ∧ b ≠ 92 := by
    intro b hb
    obtain ⟨j, hj, rfl⟩ := List.mem_iff_getElem.1 hb
    rw [List.length_take] at hj
    rw [List.getElem_take]
    by_cases hlow : nth m j < 128
    · have hr := rune_low h (j := j) (by omega) hlow
      have hk : (rune m).2 = 1 := by rw [hr]
      have h0 : j = 0 := by omega
      subst h0
      have e : (m[0]).toNat = (rune m).1 := by rw [hr]; exact nth_get _
      exact ⟨fun x => h1 (by rw [← e, x]; rfl), fun x => h2 (by rw [← e, x]; rfl)⟩
    · rw [← nth_get (by omega)] at hlow
      exact ⟨fun x => hlow (by rw [x]; decide), fun x => hlow (by rw [x]; decide)⟩
  have := str_plain (m.take (rune m).2) (m.drop (rune m).2) hall
  rw [List.take_append_drop, ht] at this
  rw [this]
  congr 1
  rw [← ht, List.length_take]; omega
theorem rune_is {m : List UInt8} {c : Nat} (h : (rune m).2 ≠ 0) (hc : (rune m).1 = c) (hl : c < 128) : ∃ t, m = UInt8.ofNat c :: t ∧ (rune m).2 = 1 := by
  have ht := Ent.rune_take m h
  rw [hc, enc_low hl] at ht
  have hl2 := congrArg List.length ht
  rw [List.length_take] at hl2
  have := (rune_le m).1
  refine ⟨m.drop (rune m).2, by (conv => lhs; rw [← List.take_append_drop (rune m).2 m, ht]); rfl, ?_⟩
  simp at hl2; omega
theorem hexF_low : ∀ (k x : Nat) (l : List UInt8) (y : Nat), hexF k x l = some y → ∀ j (hj : j < l.length), j < k → (l[j]).toNat < 128
  | 0, _, _, _, _, j, _, h => by omega
  | k + 1, x, [], y, h, j, hj, _ => by simp at hj
  | k + 1, x, b :: r, y, h, j, hj, hk => by
    unfold hexF at h
    cases hv : hexV b.toNat with
    | none => rw [hv] at h; cases h
    | some v =>
      rw [hv] at h
      cases j with
      | zero =>
        show b.toNat < 128
        refine Classical.byContradiction fun hh => ?_
        unfold hexV at hv
        rw [if_neg (by omega), if_neg (by omega), if_neg (by omega)] at hv
        cases hv
      | succ j => exact hexF_low k _ r y h j (by simpa using hj) (by omega)
/-- The last byte that a backslash has is below 128. -/
theorem esc_last {r : List UInt8} {c k : Nat} (h : escN r = some (c, k)) : ∃ hk : k - 1 < r.length, (r[k - 1]'hk).toNat < 128 := by
  have hs := escN_some h
  refine ⟨by omega, ?_⟩
  rcases r with _ | ⟨b, q⟩
  · cases h
  · rw [escN_cons] at h
    by_cases h1 : b = 34
    · subst h1; rw [if_pos rfl] at h; obtain ⟨_, rfl⟩ := Prod.mk.inj (Option.some.inj h); show (34 : UInt8).toNat < 128; decide
    rw [if_neg h1] at h
    by_cases h2 : b = 92
    · subst h2; rw [if_pos rfl] at h; obtain ⟨_, rfl⟩ := Prod.mk.inj (Option.some.inj h); show (92 : UInt8).toNat < 128; decide
    rw [if_neg h2] at h
    by_cases h3 : b = 110
    · subst h3; rw [if_pos rfl] at h; obtain ⟨_, rfl⟩ := Prod.mk.inj (Option.some.inj h); show (110 : UInt8).toNat < 128; decide
    rw [if_neg h3] at h
    by_cases h4 : b = 114
    · subst h4; rw [if_pos rfl] at h; obtain ⟨_, rfl⟩ := Prod.mk.inj (Option.some.inj h); show (114 : UInt8).toNat < 128; decide
    rw [if_neg h4] at h
    by_cases h5 : b = 116
    · subst h5; rw [if_pos rfl] at h; obtain ⟨_, rfl⟩ := Prod.mk.inj (Option.some.inj h); show (116 : UInt8).toNat < 128; decide
    rw [if_neg h5] at h
    by_cases h6 : b = 117
    · rw [if_pos h6] at h
      cases hx : hex4 q with
      | none => rw [hx] at h; cases h
      | some x =>
        rw [hx] at h
        simp only [] at h
        split at h
        · obtain ⟨_, rfl⟩ := Prod.mk.inj (Option.some.inj h)
          have hl := hexF_len _ _ _ _ hx
          exact hexF_low 4 0 q x hx 3 (by omega) (by omega)
        · cases h
    · rw [if_neg h6] at h; cases h
/-- Behind what a backslash tells a character begins. -/
theorem esc_check {t : List UInt8} (hc : check (92 :: t) = (92 :: t).length) {c k : Nat} (h : escN t = some (c, k)) : check ((92 :: t).drop (1 + k)) = ((92 :: t).drop (1 + k)).length := by
  obtain ⟨hk, hb⟩ := esc_last h
  have hs := escN_some h
  have := check_ascii _ (92 :: t) rfl hc k (by simp; omega) (by
    obtain ⟨j, rfl⟩ : ∃ j, k = j + 1 := ⟨k - 1, by omega⟩
    simp only [List.getElem_cons_succ]
    simpa using hb)
  rw [Nat.add_comm]
  exact this
end Go.Proofs.YtkmdclfkmmlloaaGreatDoor.Fx
namespace Go.Proofs.YtkmdclfkmmlloaaGreatDoor.Fx
open Go Go.Proofs.YtkmdclfkmmlloaaGreatDoor Go.Proofs.YtkmdclfkmmlloaaGreatDoor.Utf Go.Proofs.YtkmdclfkmmlloaaGreatDoor.Names Go.RowKit Go.Shelf Go.Maps
set_option maxRecDepth 100000
attribute [local go_sem] Oper.semAt_some

/-- The map with the first keywords. -/
def mapK : Nat → DataW Unit
  | 0 => .map []
  | k + 1 => (mapK k).put (.string (keys.getD k [])) (.lit (.bool true))
theorem mapK_17 : mapK 17 = keyD := by rfl
theorem mapK_step {x : List UInt8} {k : Nat} (h : keys[k]? = some x) : (mapK k).put (.string x) (.lit (.bool true)) = mapK (k + 1) := by
  show _ = (mapK k).put (.string (keys.getD k [])) (.lit (.bool true))
  rw [List.getD_eq_getElem?_getD, h]; rfl
def Grown (W : World) (b k : Nat) : Prop := W.ownsMap Tryz.prog 9 (plainElem (H := Unit) Tryz.prog 4) b k (mapK k)
theorem keys_short : ∀ x ∈ keys, x.length ≤ 20 := by decide +kernel

set_option maxHeartbeats 4000000 in
theorem keywords_in (w : World) :
    CallsIn Fence.wide 9 Tryz.prog 26 #[] w fun e w' => ∃ b, e = .returned (.map (some b)) ∧ KeyMap w' b ∧ w.heap.size ≤ b ∧ Below w.heap.size w w' := by
  have g1 : Fence.wide.fn 36 := trivial
  have hown := World.ownsMap_made (H := Unit) w Tryz.prog 9 (plainElem (H := Unit) Tryz.prog 4)
  have hmm := @run_makeMap Tryz.prog
  refine callsIn_of_wp_marks Tryz.func26 rfl trivial ?_ rfl
  simp only [Tryz.ntmps26, List.size_toArray, List.length_cons, List.length_nil, Nat.reduceAdd, Nat.reduceSub, Array.replicate_succ, Array.replicate_zero, List.push_toArray, List.append_toArray, List.nil_append, List.cons_append]
  gi_wp2_with (gi_at_call 36; refine (callsIn_wide.2 (All_any _)).mono ?_; rintro e w3 ⟨rfl, rfl⟩)
  have hs1 : ((w.alloc (Obj.map #[] 0)).alloc (Obj.cells #[Value.map (some w.heap.size)] 54)).heap.size = w.heap.size + 2 := by simp
  have bx : Boxed ((w.alloc (Obj.map #[] 0)).alloc (Obj.cells #[Value.map (some w.heap.size)] 54)) (w.heap.size + 1) 54 (.map (some w.heap.size)) := by
    have h1 := Boxed.new (w.alloc (Obj.map #[] 0)) 54 (.map (some w.heap.size))
    rw [World.size_alloc] at h1
    exact h1
  have gr : Grown ((w.alloc (Obj.map #[] 0)).alloc (Obj.cells #[Value.map (some w.heap.size)] 54)) w.heap.size 0 := by
    have h0 : w.heap.size < (w.alloc (Obj.map #[] 0)).heap.size := by simp
    obtain ⟨es, clock, h1, r⟩ := hown
    exact ⟨es, clock, (Below.heap_alloc _ _ _ h0).trans h1, r⟩
  have hbw : Below w.heap.size w ((w.alloc (Obj.map #[] 0)).alloc (Obj.cells #[Value.map (some w.heap.size)] 54)) := ba (ba (b0 w) _) _
  clear hown hmm
  generalize (w.alloc (Obj.map #[] 0)).alloc (Obj.cells #[Value.map (some w.heap.size)] 54) = W1 at *
  refine range_tellsF (F := Fence.wide) (n := 9) rfl (by omega) rfl trivial (enters_of Tryz.func72 (by kernel_rfl) rfl) (fun A B h => others_of_below h) (all_tells 8 (by omega) W1) Stay.trans (fun X l o o' _ h hc _ => Stay.put X l o o' h hc) (b0 W1) rfl
    (fun k X => Grown X w.heap.size k ∧ Boxed X (w.heap.size + 1) 54 (.map (some w.heap.size)) ∧ k ≤ 17 ∧ W1.heap.size ≤ X.heap.size ∧ Below w.heap.size w X)
    (fun c k X => False)
    ?hI ?hIx ?hIT ?hIxT ⟨gr, bx, by omega, Nat.le_refl _, hbw⟩
    (fun x => { tmps := #[.map none, .pointer (some ⟨w.heap.size + 1, 0, none⟩), .string (text x), .map (some w.heap.size), .func (.func 72) #[] #[], .string (text x), undef, undef, undef], defers := [] }) ?assign ?body ?done ?stop
  case hI =>
    rintro k A B row ⟨h1, h2, h3, h4, h5⟩ hg hr
    have far : ∀ b, b < W1.heap.size → some b ≠ row := fun b hlt e => by have := (hr _ e.symm).1; omega
    exact ⟨World.ownsMap.kept h1 hg (far _ (by omega)), h2.kept hg (far _ (by omega)), h3, Nat.le_trans h4 hg.size, h5.grown hg h5.size (fun j e => by have := (hr _ e).1; omega)⟩
  case hIx => rintro c k A B row h; exact h.elim
  case hIT =>
    rintro k A B ⟨h1, h2, h3, h4, h5⟩ hb
    refine ⟨?_, boxed_later h2 hb, h3, Nat.le_trans h4 hb.size, bt h5 hb⟩
    have hl := h1.lt
    obtain ⟨es, clock, g1, r⟩ := h1
    exact ⟨es, clock, (hb.block _ hl).trans g1, r⟩
  case hIxT => rintro c k A B h; exact h.elim
  case assign =>
    intro lp x X K' hK'
    gi_wp2
    exact hK'
  case body =>
    rintro lp k x X hx ⟨h1, h2, h3, h4, h5⟩
    have hk17 : k < 17 := by have := (List.getElem?_eq_some_iff.1 hx).1; rw [keys17] at this; exact this
    have hxl := keys_short x (List.mem_of_getElem? hx)
    have hkey : keyOf Tryz.prog 9 (.string (text x)) = some (.string x) := by
      have := WideMaps.keyOf_string_mk (P := Tryz.prog) under9 (s := text x) (by rw [text_size]; unfold maxLen; omega)
      rw [text_data] at this
      exact this
    have hst := mapK_step hx
    have ci := h2.cell
    have HST := hid hst
    have H1 := hid h1
    have H2 := hid h2
    have H5 := hid h5
    clear hst hx h1 h2 h5 hxl
    gi_wp2_with (gi_at_mapUpdate; refine wpListIn_mapUpdate_own _ rfl _ _ _ 54 rfl 9 4 (Maps.string_keyed under9) underM (plainElem (H := Unit) Tryz.prog 4) _ _ _ rfl H1.out (by unfold maxLen; omega) _ _ _ rfl rfl hkey (.lit (.bool true)) [] (plainElem_bool underO true) ?_; intro w1 hown1 hg1)
    rw [HST.out] at hown1
    have hsz := hg1.size
    have hb1 : ∀ j, j < X.heap.size → j ≠ w.heap.size → w1.heap[j]? = X.heap[j]? := fun j h h' => hg1.block j h (fun e => h' (Option.some.inj e))
    refine ⟨fun j o h hj _ => ?_, fun j o h hj _ => ?_, hown1, H2.out.kept hg1 (fun e => by have := Option.some.inj e; omega), by omega, by omega, H5.out.grown hg1 H5.out.size (fun j e => by have := Option.some.inj e; omega)⟩
    · rw [hb1 j (Array.getElem?_eq_some_iff.1 hj).1 (by omega)]; exact hj
    · rw [hb1 j (Array.getElem?_eq_some_iff.1 hj).1 (by omega)]; exact hj
  case done =>
    rintro D X hD ⟨h1, h2, h3, h4, h5⟩ hKD
    rw [keys17] at h1
    have ci := h2.cell
    have H1 := hid h1
    have H5 := hid h5
    clear h1 h2 h5
    gi_wp2
    refine ⟨by simp, .inl ⟨_, _, rfl, run_takeDeferred hKD, ?_⟩⟩
    refine ⟨_, results_tmp rfl _ _ _, _, rfl, ?_, by omega, H5.out.trans (belowK_b (w := W1) (by omega) X D _ _ hD hKD rfl rfl)⟩
    have hl := H1.out.lt
    obtain ⟨es, clock, g1, r⟩ := H1.out
    unfold KeyMap
    rw [← mapK_17]
    exact ⟨es, clock, (World.putObj_heap_other (by omega)).trans g1, r⟩
  case stop =>
    rintro D c k X hD hk h
    exact h.elim

theorem keywords_is (w : World) :
    Calls Tryz.prog 26 #[] w fun e w' => ∃ b, e = .returned (.map (some b)) ∧ KeyMap w' b ∧ w.heap.size ≤ b ∧ Below w.heap.size w w' := callsIn_wide.1 (keywords_in w)
end Go.Proofs.YtkmdclfkmmlloaaGreatDoor.Fx
namespace Go.Proofs.YtkmdclfkmmlloaaGreatDoor.Fx
open Go Go.Proofs.YtkmdclfkmmlloaaGreatDoor Go.Proofs.YtkmdclfkmmlloaaGreatDoor.Utf Go.Proofs.YtkmdclfkmmlloaaGreatDoor.Names Go.Proofs.YtkmdclfkmmlloaaGreatDoor.Ent Go.Proofs.YtkmdclfkmmlloaaGreatDoor.Fl Go.RowKit
set_option maxRecDepth 100000

/-- Where the walk through a text in quotes stands. -/
def Told (r : List UInt8) (pos e : Nat) (out : List UInt8) : Prop :=
  Edge (34 :: r) pos ∧ Edge (34 :: r) (max pos e) ∧ 1 ≤ max pos e ∧ str r = put out (max pos e - 1) (str ((34 :: r).drop (max pos e))) ∧ out.length ≤ 4 * pos
theorem Told.start {r : List UInt8} (h : check (34 :: r) = (34 :: r).length) : Told r 0 1 [] := by
  refine ⟨Edge.start h, ?_, by omega, ?_, by simp⟩
  · have := check_ascii _ (34 :: r) rfl h 0 (by simp) (by show (34 : UInt8).toNat < 128; decide)
    exact ⟨by simp, this⟩
  · show str r = put [] 0 (str r)
    exact (str_same r).symm
theorem Told.wait {r out : List UInt8} {pos e : Nat} (h : Told r pos e out) (hp : pos < (34 :: r).length) (hlt : pos < e) : Told r (pos + (rune ((34 :: r).drop pos)).2) e out := by
  obtain ⟨h1, h2, h3, h4, h5⟩ := h
  have hs := h1.step hp
  rw [Nat.max_eq_right (by omega)] at h2 h3 h4
  have ho := h1.over h2 hlt
  unfold Told
  rw [Nat.max_eq_right ho]
  exact ⟨hs.2.2.1, h2, h3, h4, by omega⟩
theorem Told.over {r out : List UInt8} {pos e : Nat} (h : Told r pos e out) (hp : pos < (34 :: r).length) (hlt : ¬ pos < e) (hc : (rune ((34 :: r).drop pos)).1 = 34) :
    str r = (out, pos, 0) ∧ 1 ≤ pos := by
  obtain ⟨h1, h2, h3, h4, h5⟩ := h
  rw [Nat.max_eq_left (by omega)] at h2 h3 h4
  obtain ⟨t, ht, _⟩ := rune_is (h1.step hp).1 hc (by omega)
  rw [ht, show UInt8.ofNat 34 = 34 from rfl, str_end] at h4
  refine ⟨?_, h3⟩
  rw [h4]
  unfold put
  simp
  omega
theorem Told.bad {r out : List UInt8} {pos e : Nat} (h : Told r pos e out) (hlt : ¬ pos < e) {t : List UInt8} (ht : (34 :: r).drop pos = 92 :: t) (hn : escN t = none) :
    str r = ([], pos - 1, 11) ∧ 1 ≤ pos := by
  obtain ⟨h1, h2, h3, h4, h5⟩ := h
  rw [Nat.max_eq_left (by omega)] at h2 h3 h4
  rw [ht, str_wrong hn] at h4
  refine ⟨?_, h3⟩
  rw [h4]
  unfold put
  simp
theorem Told.esc {r out : List UInt8} {pos e : Nat} (h : Told r pos e out) (hp : pos < (34 :: r).length) (hlt : ¬ pos < e) {t : List UInt8} (ht : (34 :: r).drop pos = 92 :: t) {c k : Nat} (hn : escN t = some (c, k)) :
    Told r (pos + 1) (pos + (1 + k)) (out ++ enc (c : Int)) := by
  obtain ⟨h1, h2, h3, h4, h5⟩ := h
  rw [Nat.max_eq_left (by omega)] at h2 h3 h4
  have hs := escN_some hn
  have hl := congrArg List.length ht
  rw [List.length_drop, List.length_cons (a := (92 : UInt8))] at hl
  have hck := esc_check (by rw [← ht]; exact h1.2) hn
  have hb := h1.behind (n := 1 + k) (by omega) (by rw [ht]; exact hck)
  have h1b := h1.behind (n := 1) (by omega) (by rw [ht]; exact check_ascii _ (92 :: t) rfl (by rw [← ht]; exact h1.2) 0 (by simp) (by show (92 : UInt8).toNat < 128; decide))
  unfold Told
  rw [Nat.max_eq_right (by omega)]
  have he := enc_len (c : Int)
  refine ⟨h1b, hb, by omega, ?_, by rw [List.length_append]; omega⟩
  rw [h4, ht, str_esc hn, put_put]
  have hd : (34 :: r).drop (pos + (1 + k)) = t.drop k := by
    rw [← List.drop_drop, ht, Nat.add_comm 1 k]; rfl
  rw [hd]
  congr 1
  omega
theorem Told.self {r out : List UInt8} {pos e : Nat} (h : Told r pos e out) (hp : pos < (34 :: r).length) (hlt : ¬ pos < e) (h1 : (rune ((34 :: r).drop pos)).1 ≠ 34) (h2 : (rune ((34 :: r).drop pos)).1 ≠ 92) :
    Told r (pos + (rune ((34 :: r).drop pos)).2) e (out ++ enc ((rune ((34 :: r).drop pos)).1 : Int)) := by
  obtain ⟨k1, k2, k3, k4, k5⟩ := h
  rw [Nat.max_eq_left (by omega)] at k2 k3 k4
  have hs := k1.step hp
  unfold Told
  rw [Nat.max_eq_left (by omega)]
  have he := enc_len ((rune ((34 :: r).drop pos)).1 : Int)
  refine ⟨hs.2.2.1, hs.2.2.1, by omega, ?_, by rw [List.length_append]; omega⟩
  rw [k4, str_rune hs.1 h1 h2, put_put, List.drop_drop]
  congr 1
  omega
theorem Told.done {r out : List UInt8} {pos e : Nat} (h : Told r pos e out) (hp : ¬ pos < (34 :: r).length) : str r = ([], r.length, 10) := by
  obtain ⟨h1, h2, h3, h4, h5⟩ := h
  have e1 : max pos e = (34 :: r).length := by have := h2.1; omega
  rw [e1, List.drop_length, str_nil] at h4
  rw [h4]
  unfold put
  simp

/-- What it tells, as values. -/
def quotedV (r : List UInt8) : Value := .tuple #[.string (text (str r).1), .int .i64 ((1 + (str r).2.1 : Nat) : Int), .int .i64 (str r).2.2]

set_option maxHeartbeats 4000000 in
theorem quoted_any (r : List UInt8) (hl : r.length ≤ 1000000) (hck : check (34 :: r) = (34 :: r).length) (w : World) (hE : Errs w) :
    Calls Tryz.prog 41 #[.string (text (34 :: r))] w fun e w' => e = .returned (quotedV r) ∧ Below w.heap.size w w' := by
  have hT := Told.start hck
  have hqv : quotedV r = .tuple #[.string (text (str r).1), .int .i64 ((1 + (str r).2.1 : Nat) : Int), .int .i64 (str r).2.2] := rfl
  have hlen : (34 :: r).length = r.length + 1 := rfl
  have s1 : (text (34 :: r)).size = (34 :: r).length := text_size _
  rw [hlen] at s1
  have hx : ∀ pos, (text (34 :: r)).extract pos (r.length + 1) = text ((34 :: r).drop pos) := fun pos => by have := text_extract (34 :: r) pos; rwa [s1] at this
  have HX := hid hx
  have HT := hid hT
  have HQ := hid hqv
  have HE := hid hE
  have HW := hid (fun pos e out (h : Told r pos e out) => h.wait)
  have HO := hid (fun pos e out (h : Told r pos e out) => h.over)
  have HB := hid (fun pos e out (h : Told r pos e out) => h.bad)
  have HS := hid (fun pos e out (h : Told r pos e out) => h.esc)
  have HP := hid (fun pos e out (h : Told r pos e out) => h.self)
  have HD := hid (fun pos e out (h : Told r pos e out) => h.done)
  have HF := hid (fun pos e out (h : Told r pos e out) (hp : pos < (34 :: r).length) => h.1.step hp)
  have HL := hid (fun pos e out (h : Told r pos e out) => h.2.2.2.2)
  generalize Told r = T at *
  clear hT hqv hE hck hx
  generalize hs : 34 :: r = s at *
  clear hs
  go_enter Tryz.func41, Tryz.ntmps41
  go_wp2_with fail
  go_loopw [6] (fun ev wr => ∃ (pos e : Nat) (out : List UInt8), ev = .int .i64 e ∧ wr.heap[w.heap.size + 1]? = some (.stringIter (text s) pos) ∧ Hid (T pos e out) ∧ Bld.Is (w.heap.size + 2) w.heap.size out wr ∧ Below w.heap.size w wr ∧ w.heap.size + 2 ≤ wr.heap.size) (fun _ wr => s.length - wr.iterPos (w.heap.size + 1))
  case atStart =>
    refine ⟨0, 1, [], rfl, by
      have hn := heap_alloc_new (w.alloc (.cells #[.pointer none, .slice none 0 0] 67)) (.stringIter (text s) 0)
      rw [show (w.alloc (.cells #[.pointer none, .slice none 0 0] 67)).heap.size = w.heap.size + 1 from by simp] at hn
      exact hn, HT, ?_, ba (ba (b0 w) _) _, by
      show w.heap.size + 2 ≤ ((w.alloc (.cells #[.pointer none, .slice none 0 0] 67)).alloc (.stringIter (text s) 0)).heap.size
      simp⟩
    exact (Bld.Is.fresh (w.heap.size + 2) w (by omega)).later ((Below.refl _ _).alloc (Nat.le_refl _) _)
  case round =>
    rename World => wr
    obtain ⟨pos, e, out, rfl, hit, HST, hIs, hbr, hzr⟩ := hrel
    have hol := HL.out pos e out HST.out
    by_cases hp : pos < s.length
    · have hps : pos < (text s).size := by rw [s1, ← hlen]; exact hp
      have hnx : ∀ ty, (Instr.next (.pointer (some ⟨w.heap.size + 1, 0, none⟩)) true ty).run Tryz.prog wr = _ := fun ty => Lib.run_next_any_at wr (w.heap.size + 1) (text s) pos ty hit hps
      obtain ⟨hne, hfi, _, hdec⟩ := HF.out pos e out HST.out hp
      rw [hdec] at hnx
      have hk1 : 1 ≤ (rune (s.drop pos)).2 := by omega
      have hfl : ((rune (s.drop pos)).1 : Int) ≤ 1114111 := by have := (nfine_iff _).1 hfi; omega
      have hrle := (rune_le (s.drop pos)).1
      rw [List.length_drop] at hrle
      have hnew := Lib.iterAt_heap wr (w.heap.size + 1) (text s) pos (pos + (rune (s.drop pos)).2) hit
      have hnb := Lib.below_iterAt hbr (k := w.heap.size + 1) (by omega) (text s) (pos + (rune (s.drop pos)).2)
      have hni := is_iterAt hIs (k := w.heap.size + 1) (by omega) (by omega) (text s) (pos + (rune (s.drop pos)).2)
      have hnz := Lib.iterAt_size wr (w.heap.size + 1) (text s) (pos + (rune (s.drop pos)).2)
      have hmeas := iter_is hit
      have W1 := hid (HW.out pos e out HST.out hp)
      have O1 := hid (HO.out pos e out HST.out hp)
      have B1 := hid (@(HB.out pos e out HST.out))
      have S1 := hid (@(HS.out pos e out HST.out hp))
      have P1 := hid (HP.out pos e out HST.out hp)
      have R1 := hid (fun c => @rune_is (s.drop pos) c hne)
      have X1 := HX.out pos
      have HN := hid hnew
      have HNB := hid hnb
      have HNI := hid hni
      have HM := hid hmeas
      clear hit hIs hbr hnew hnb hni hmeas hps hne hfi hdec
      have hdl : (s.drop pos).length = s.length - pos := List.length_drop
      generalize s.drop pos = m at *
      generalize rune m = q at *
      obtain ⟨c, k⟩ := q
      dsimp only at hnx hk1 hfl hrle HN HNB HNI hnz W1 O1 B1 S1 P1 R1
      generalize wr.iterAt (w.heap.size + 1) (text s) (pos + k) = w4 at *
      have hz4 : w.heap.size + 2 ≤ w4.heap.size := by omega
      by_cases hlt : pos < e
      · have R := hid (W1.out hlt)
        go_wp2_with fail
        go_roundw
        case rel => exact ⟨pos + k, e, out, rfl, HN.out, R, HNI.out, HNB.out, hz4⟩
        case measure => rw [HM.out, iter_is HN.out]; omega
      · by_cases h34 : c = 34
        · have z34 : ((c : Int) == 34) = true := by rw [beq_iff_eq]; omega
          have R := hid (O1.out hlt h34)
          have hstr := Bld.String_any (w.heap.size + 2) w.heap.size out w4 HNI.out
          have HSR := hid hstr
          clear hstr h34
          go_wp2_with fail
          refine HSR.out.mono ?_
          rintro ee w5 ⟨rfl, hb5⟩
          go_wp2
          go_ret3
          refine ⟨?_, HNB.out.trans hb5⟩
          rw [HQ.out, R.out.1]
          show Ending.returned (.tuple #[.string (text out), .int .i64 ((pos : Int) + 1), .int .i64 0]) = _
          rw [show (((1 + (out, pos, 0).2.1 : Nat)) : Int) = (pos : Int) + 1 from by show ((1 + pos : Nat) : Int) = _; omega]
          rfl
        · have z34 : ((c : Int) == 34) = false := by rw [beq_eq_false_iff_ne]; omega
          by_cases h92 : c = 92
          · have z92 : ((c : Int) == 92) = true := by rw [beq_iff_eq]; omega
            obtain ⟨t, ht, hk⟩ := R1.out 92 h92 (by omega)
            have ht' : m = 92 :: t := ht
            have htl := congrArg List.length ht'
            rw [List.length_cons, hdl] at htl
            have hesc := fun w hE => escape_any t (by omega) w hE
            rw [← ht'] at hesc
            have hE4 := HE.out.below HNB.out (Nat.le_refl _)
            have HE4 := hid hE4
            clear hE4 h92 h34
            cases hn : escN t with
            | none =>
              have R := hid (B1.out hlt ht' hn)
              have hep : escP t = (0, 0) := by unfold escP; rw [hn]
              rw [hep] at hesc
              have HC := hid hesc
              clear hn hep hesc ht ht' hk
              go_wp2_with fail
              refine (HC.out _ HE4.out).mono ?_
              rintro ee w5 ⟨rfl, hb5⟩
              go_wp2
              go_ret3
              refine ⟨?_, HNB.out.trans (hb5.mono (by omega))⟩
              rw [HQ.out, R.out.1]
              have := R.out.2
              show Ending.returned (.tuple #[.string (text []), .int .i64 (pos : Int), .int .i64 11]) = _
              rw [show (((1 + (([] : List UInt8), pos - 1, 11).2.1 : Nat)) : Int) = (pos : Int) from by show ((1 + (pos - 1) : Nat) : Int) = _; omega]
              rfl
            | some y =>
              obtain ⟨c2, k2⟩ := y
              have R := hid (S1.out hlt ht' hn)
              have hy := escN_some hn
              have hc2 : (c2 : Int) ≤ 1114111 := by have := (nfine_iff _).1 hy.1; omega
              have hc20 : 0 ≤ (c2 : Int) := by omega
              have hep : escP t = (c2, 1 + k2) := by unfold escP; rw [hn]
              rw [hep] at hesc
              have HC := hid hesc
              have hy2 := hy.2.2
              have hz : (((1 + k2 : Nat) : Int) == 0) = false := by rw [beq_eq_false_iff_ne]; omega
              have HK := hid hk
              clear hn hep hesc ht ht' hk hy
              generalize hkk : 1 + k2 = k3 at *
              go_wp2_with fail
              refine (HC.out _ HE4.out).mono ?_
              rintro ee w5 ⟨rfl, hb5⟩
              have hz5 := hb5.size
              have HB5 := hid hb5
              have HIT5 := hid ((hb5.block (w.heap.size + 1) (by omega)).trans HN.out)
              have HI5 := hid (HNI.out.later hb5)
              clear hb5
              go_wp2_with fail
              refine (Bld.WriteRune_any (w.heap.size + 2) w.heap.size out (c2 : Int) hc20 hc2 _ HI5.out (by omega) (by omega)).mono ?_
              rintro ee w6 ⟨rfl, hI6, hB6⟩
              have HI6 := hid hI6
              have HB6 := hid hB6
              clear hI6 hB6
              have hz6 := HB6.out.size
              have HIT := hid ((HB6.out.block (w.heap.size + 1) (by omega) (by omega)).trans HIT5.out)
              go_wp2_with fail
              go_roundw
              case rel => exact ⟨pos + k, pos + k3, out ++ enc (c2 : Int), by go_num, HIT.out, by rw [HK.out]; exact R, HI6.out, (HNB.out.trans (HB5.out.mono (by omega))).trans (HB6.out.below (Nat.le_refl _) (by omega)), by omega⟩
              case measure => rw [HM.out, iter_is HIT.out]; omega
          · have z92 : ((c : Int) == 92) = false := by rw [beq_eq_false_iff_ne]; omega
            have R := hid (P1.out hlt h34 h92)
            have hc0 : 0 ≤ (c : Int) := by omega
            clear h34 h92
            go_wp2_with fail
            refine (Bld.WriteRune_any (w.heap.size + 2) w.heap.size out (c : Int) hc0 hfl _ HNI.out (by omega) hz4).mono ?_
            rintro ee w5 ⟨rfl, hI5, hB5⟩
            have HI5 := hid hI5
            have HB5 := hid hB5
            clear hI5 hB5
            have hz5 := HB5.out.size
            have HIT := hid ((HB5.out.block (w.heap.size + 1) (by omega) (by omega)).trans HN.out)
            go_wp2_with fail
            go_roundw
            case rel => exact ⟨pos + k, e, out ++ enc (c : Int), rfl, HIT.out, R, HI5.out, HNB.out.trans (HB5.out.below (Nat.le_refl _) (by omega)), by omega⟩
            case measure => rw [HM.out, iter_is HIT.out]; omega
    · have hps : ¬ pos < (text s).size := by rw [s1, ← hlen]; exact hp
      have hnx : ∀ ty, (Instr.next (.pointer (some ⟨w.heap.size + 1, 0, none⟩)) true ty).run Tryz.prog wr = _ := fun ty => Lib.run_next_end_at wr (w.heap.size + 1) (text s) pos ty hit hps
      have R := hid (HD.out pos e out HST.out hp)
      have HBR := hid hbr
      clear hit hIs hbr hps
      go_wp2
      go_ret3
      refine ⟨?_, HBR.out⟩
      rw [HQ.out, R.out]
      show Ending.returned (.tuple #[.string (text []), .int .i64 ((r.length : Int) + 1), .int .i64 10]) = _
      rw [show (((1 + (([] : List UInt8), r.length, 10).2.1 : Nat)) : Int) = (r.length : Int) + 1 from by show ((1 + r.length : Nat) : Int) = _; omega]
      rfl
end Go.Proofs.YtkmdclfkmmlloaaGreatDoor.Fx
namespace Go.Proofs.YtkmdclfkmmlloaaGreatDoor.Fx
open Go Go.Proofs.YtkmdclfkmmlloaaGreatDoor Go.Proofs.YtkmdclfkmmlloaaGreatDoor.Utf Go.Proofs.YtkmdclfkmmlloaaGreatDoor.Names Go.Proofs.YtkmdclfkmmlloaaGreatDoor.Ent Go.Proofs.YtkmdclfkmmlloaaGreatDoor.Fl Go.RowKit
set_option maxRecDepth 100000

theorem results_three {fn : Func} {p u x : Tmp} {ty : TypeId} (h : fn.results = #[.cell p ty, .tmp u, .tmp x]) {P : Program} (tmps : Array Value) (w : World) (g : Nat) (cs : Array Value)
    (hp : tmps.getD p undef = .pointer (some ⟨g, 0, none⟩)) (hrun : (loadVar ty ⟨g, 0, none⟩).run P w = .ok (.agg cs) w) :
    (results fn tmps).run P w = .ok (.tuple #[.agg cs, tmps.getD u undef, tmps.getD x undef]) w := by
  simp only [results, h]
  have hp' : tmps[p]?.getD undef = .pointer (some ⟨g, 0, none⟩) := by simpa using hp
  simp [Sem.run_bind, Result.andThen, hp', asAddr, hrun]
/-- Three stores into one block. -/
theorem set3 {w : World} {b : Nat} {a1 a2 a3 : Value} {ty : TypeId} (h : w.heap[b]? = some (.cells #[a1, a2, a3] ty (0, 0))) (x y z : Value) :
    (((w.setCell ⟨b, 0, none⟩ x).setCell ⟨b, 1, none⟩ y).setCell ⟨b, 2, none⟩ z).heap[b]? = some (.cells #[x, y, z] ty (0, 0)) ∧ ∀ B, B ≤ b → Below B w (((w.setCell ⟨b, 0, none⟩ x).setCell ⟨b, 1, none⟩ y).setCell ⟨b, 2, none⟩ z) := by
  refine ⟨by simp [World.setCell, Array.getElem?_modify, h], fun B hB => ?_⟩
  exact (((Below.refl B w).setCell (p := ⟨b, 0, none⟩) hB x).setCell (p := ⟨b, 1, none⟩) hB y).setCell (p := ⟨b, 2, none⟩) hB z
theorem sizLex : (Tryz.prog.info? 36).map (·.size) = some 3 := by kernel_rfl
theorem below_drew {B : Nat} {a b : World} (h : Below B a b) : Below B a b.drew := below_drewN h 1
def lexV (k : Nat) (s : List UInt8) : Array Value := #[.int .i64 k, .int .i64 0, .string (text s)]
theorem kind_key (x : List UInt8) : (if keyB x = true then 1 else 0 : Nat) ≤ 1 := by split <;> omega

set_option maxHeartbeats 1000000 in
theorem word_any (x : List UInt8) (hx : x.length ≤ 1000000) (mb : Nat) (w : World) (hm : KeyMap w mb) :
    Calls Tryz.prog 38 #[.string (text x), .map (some mb)] w fun e w' => e = .returned (.agg (lexV (if keyB x = true then 1 else 0) x)) ∧ Below w.heap.size w w' := by
  have hm1 : KeyMap (w.alloc (.cells #[.int .i64 0, .int .i64 0, .string ⟨#[]⟩] 36)) mb := hm.below (ba (b0 w) _)
  have hlk := key_lookup hm1 x (by omega)
  have p1 := heap_alloc_new w (.cells #[.int .i64 0, .int .i64 0, .string ⟨#[]⟩] 36)
  have hb0 := ba (b0 w) (.cells #[.int .i64 0, .int .i64 0, .string ⟨#[]⟩] 36)
  have d0 : (w.alloc (.cells #[.int .i64 0, .int .i64 0, .string ⟨#[]⟩] 36)).cell? ⟨w.heap.size, 0, none⟩ = some (.int .i64 0) := by rw [Lib.cell_of_heap p1]; rfl
  have d1 : (w.alloc (.cells #[.int .i64 0, .int .i64 0, .string ⟨#[]⟩] 36)).cell? ⟨w.heap.size, 1, none⟩ = some (.int .i64 0) := by rw [Lib.cell_of_heap p1]; rfl
  have d2 : (w.alloc (.cells #[.int .i64 0, .int .i64 0, .string ⟨#[]⟩] 36)).cell? ⟨w.heap.size, 2, none⟩ = some (.string ⟨#[]⟩) := by rw [Lib.cell_of_heap p1]; rfl
  have f0 := Lib.frozen_of_heap p1 0
  have f1 := Lib.frozen_of_heap p1 1
  have f2 := Lib.frozen_of_heap p1 2
  have P1 := hid p1
  have HB := hid hb0
  clear p1 hb0 hm hm1
  cases hk : keyB x
  all_goals
    rw [hk] at hlk
    have HK := hid hk
    clear hk
    go_enter Tryz.func38, Tryz.ntmps38
    go_wp2
  · refine bodyPost_ret (results_cell_row rfl _ _ _ _ (lexV 0 x) _ _ rfl (heap_alloc_new w (.cells (lexV 0 x) 36)) Tryz.underlying36 rfl sizLex) rfl ?_
    exact ⟨rfl, ba (b0 w) _⟩
  · refine bodyPost_ret (results_cell_row rfl _ _ _ _ (lexV 1 x) _ _ rfl (heap_alloc_new w (.cells (lexV 1 x) 36)) Tryz.underlying36 rfl sizLex) rfl ?_
    exact ⟨rfl, ba (b0 w) _⟩

theorem wordF_step (f : Nat) (s : Bool) (l : List UInt8) : wordF (f + 1) s l = if (rune l).2 ≠ 0 ∧ Utf.next (rune l).1 = true ∧ (s = true → Utf.first (rune l).1 = true) then (rune l).2 + wordF f false (l.drop (rune l).2) else 0 := rfl
/-- How many bytes a word has. -/
theorem words_any (l : List UInt8) (hl : l.length ≤ 1000000) (hck : check l = l.length) (hne : l ≠ []) (hf : Utf.first (rune l).1 = true) (w : World) :
    Calls Tryz.prog 39 #[.string (text l), .func (.func 40) #[] #[]] w fun e w' => e = .returned (.int .i64 (wordN l)) ∧ Below w.heap.size w w' := by
  have hn : Utf.next (rune l).1 = true := (Utf.next_iff _).2 (.inl hf)
  have e0 : wordF l.length false l = wordN l := by
    unfold wordN
    obtain ⟨n, hn1⟩ : ∃ n, l.length = n + 1 := ⟨l.length - 1, by have := List.length_pos_iff.2 hne; omega⟩
    rw [hn1, wordF_step, wordF_step]
    by_cases h0 : (rune l).2 = 0
    · rw [if_neg (fun h => h.1 h0), if_neg (fun h => h.1 h0)]
    · rw [if_pos ⟨h0, hn, by intro c; cases c⟩, if_pos ⟨h0, hn, fun _ => hf⟩]
  refine runEnd_any 40 Utf.next (fun c w => Next_any c w) (enters_of Tryz.func40 (by kernel_rfl) rfl) l (by omega) (wordN l) (fun pos => Edge l pos ∧ pos + wordF (l.length - pos) false (l.drop pos) = wordN l) ⟨Edge.start hck, by rw [Nat.zero_add, List.drop_zero, Nat.sub_zero, e0]⟩ ?_ ?_ w
  · rintro pos ⟨h1, h2⟩ hp
    obtain ⟨s1, s2, s3, s4⟩ := h1.step hp
    rw [s4]
    have hr := (rune_le (l.drop pos)).1
    rw [List.length_drop] at hr
    obtain ⟨n, hn1⟩ : ∃ n, l.length - pos = n + 1 := ⟨l.length - pos - 1, by omega⟩
    rw [hn1, wordF_step] at h2
    constructor
    · intro h
      rw [if_pos ⟨s1, h, by intro c; cases c⟩, List.drop_drop] at h2
      refine ⟨s3, ?_⟩
      rw [← h2, wordF_eq (l.length - (pos + (rune (l.drop pos)).2)) n false (l.drop (pos + (rune (l.drop pos)).2)) (by rw [List.length_drop]; omega) (by rw [List.length_drop]; omega)]
      omega
    · intro h
      rw [if_neg (fun x => by rw [h] at x; exact absurd x.2.1 (by simp))] at h2
      omega
  · rintro pos ⟨h1, h2⟩ hp
    have : pos = l.length := by have := h1.1; omega
    subst this
    rw [Nat.sub_self] at h2
    exact h2
theorem wordN_pos {l : List UInt8} (hne : (rune l).2 ≠ 0) (hf : Utf.first (rune l).1 = true) : 0 < wordN l := by
  have hr := (rune_le l).1
  obtain ⟨n, hn1⟩ : ∃ n, l.length = n + 1 := ⟨l.length - 1, by omega⟩
  unfold wordN
  rw [hn1, wordF_step, if_pos ⟨hne, (Utf.next_iff _).2 (.inl hf), fun _ => hf⟩]
  omega
theorem wordN_no {l : List UInt8} (hf : Utf.first (rune l).1 = false) : wordN l = 0 := by
  unfold wordN
  rcases hn : l.length with _ | n
  · rfl
  · rw [wordF_step, if_neg]
    intro h
    have := h.2.2 rfl
    rw [hf] at this; cases this

/-- A token, or an error, as the code hands it on. -/
def frontV : One → Value
  | .tok k s n => .tuple #[.agg (lexV k s), .int .i64 n, .int .i64 0]
  | .bad p e => .tuple #[.agg (lexV 0 []), .int .i64 p, .int .i64 e]

theorem one_quoted {t : List UInt8} (hw : wordN (34 :: t) = 0) : Fl.one (34 :: t) = Fl.quoted t := by
  have hn : numB (34 :: t) = false := by
    show (Fl.isd 34 || dotted (34 :: t)) = false
    rw [show Fl.isd 34 = false from by decide, Bool.false_or]
    cases t <;> rfl
  unfold Fl.one
  rw [if_neg (by omega), if_neg (by rw [hn]; simp), if_pos (by rfl)]
  rfl
theorem one_number {l : List UInt8} (hw : wordN l = 0) (h : 0 < numN l) : Fl.one l = .tok 2 (l.take (numN l)) (numN l) := by
  have hn : numB l = true := by
    cases hb : numB l
    · have := numB_zero hb; omega
    · rfl
  unfold Fl.one
  rw [if_neg (by omega), if_pos hn]
theorem one_signed {l : List UInt8} (hw : wordN l = 0) (h : numN l = 0) (h34 : l.head? ≠ some 34) : Fl.one l = if signN l = 0 then .bad 0 11 else .tok 4 (l.take (signN l)) (signN l) := by
  have hn : ¬ numB l = true := fun hb => by have := numB_pos hb; omega
  unfold Fl.one
  rw [if_neg (by omega), if_neg hn, if_neg h34]

set_option maxHeartbeats 4000000 in
theorem front_any (l : List UInt8) (hl : l.length ≤ 1000000) (hck : check l = l.length) (hne : l ≠ []) (c : Nat) (hc : (rune l).1 = c) (mb : Nat) (w : World) (hm : KeyMap w mb) (hE : Errs w) (hS : Signs w) :
    Calls Tryz.prog 28 #[.string (text l), .int .i32 c, .map (some mb)] w fun e w' => e = .returned (frontV (Fl.one l)) ∧ Below w.heap.size w w' := by
  have s1 : (text l).size = l.length := text_size l
  have hrn : (rune l).2 ≠ 0 := by
    intro h0
    have := check_stop h0
    rw [hck] at this
    exact hne (List.eq_nil_of_length_eq_zero this)
  obtain ⟨hfi, _⟩ := rune_some (l := l) (c := (rune l).1) (k := (rune l).2) rfl hrn
  have hcl : (c : Int) ≤ 1114111 := by rw [hc] at hfi; have := (nfine_iff _).1 hfi; omega
  have hF := fun w => First_any (c : Int) w
  have hb0 := ba (b0 w) (.cells #[.int .i64 0, .int .i64 0, .string ⟨#[]⟩] 36)
  have hz0 : (w.alloc (.cells #[.int .i64 0, .int .i64 0, .string ⟨#[]⟩] 36)).heap.size = w.heap.size + 1 := by simp
  have p0 := heap_alloc_new w (.cells #[.int .i64 0, .int .i64 0, .string ⟨#[]⟩] 36)
  have hm1 : KeyMap (w.alloc (.cells #[.int .i64 0, .int .i64 0, .string ⟨#[]⟩] 36)) mb := hm.below hb0
  have hE1 := hE.below hb0 (Nat.le_refl _)
  have hS1 := hS.below hb0 (Nat.le_refl _)
  have HB0 := hid hb0
  have P0 := hid p0
  have HM := hid hm1
  have HE := hid hE1
  have HS := hid hS1
  clear hb0 p0 hm hm1 hE hE1 hS hS1
  cases hf : Utf.first (c : Int)
  · rw [hf] at hF
    have hf' : Utf.first ((rune l).1 : Int) = false := by rw [hc]; exact hf
    have hw0 := wordN_no hf'
    have HF := hid hF
    clear hF hf hf'
    by_cases h34 : c = 34
    · have z34 : ((c : Int) == 34) = true := by rw [beq_iff_eq]; omega
      obtain ⟨t, ht, _⟩ := rune_is hrn (hc.trans h34) (by omega)
      have ht' : l = 34 :: t := ht
      subst ht'
      have hq := fun w hE => quoted_any t (by simp at hl; omega) hck w hE
      have hone := one_quoted hw0
      unfold Fl.quoted at hone
      unfold quotedV at hq
      have hse := fun h => str_error (m := t) h
      have hsf := str_facts _ t rfl
      have hpl : 1 + (str t).2.1 ≤ 1000000 := by have := hsf.1; simp at hl; omega
      have hel := hsf.2.1
      have HQ := hid hq
      have HO := hid hone
      have HSE := hid hse
      clear hq hone hse hck hne hc hrn hfi hw0 ht h34 hsf
      obtain ⟨⟨sv, sp, se⟩, hst⟩ : ∃ x, x = str t := ⟨_, rfl⟩
      rw [← hst] at HQ HO HSE hpl hel
      dsimp only at HQ HO HSE hpl hel
      clear hst
      generalize hsp : 1 + sp = n at *
      by_cases he : se = 0
      · have ze : ((se : Int) == 0) = true := by rw [beq_iff_eq]; omega
        have HO2 : Hid _ := hid (HO.out.trans (if_pos he))
        subst he
        clear HO HSE
        go_enter Tryz.func28, Tryz.ntmps28
        go_wp2_with fail
        refine (HF.out _).mono ?_
        rintro e w2 ⟨rfl, rfl⟩
        go_wp2_with fail
        refine (HQ.out _ HE.out).mono ?_
        rintro e w3 ⟨rfl, hb3⟩
        have hz3 := hb3.size
        rw [hz0] at hz3
        have p3 := (hb3.block w.heap.size (by omega)).trans P0.out
        have d0 : w3.cell? ⟨w.heap.size, 0, none⟩ = some (.int .i64 0) := by rw [Lib.cell_of_heap p3]; rfl
        have d1 : w3.cell? ⟨w.heap.size, 1, none⟩ = some (.int .i64 0) := by rw [Lib.cell_of_heap p3]; rfl
        have d2 : w3.cell? ⟨w.heap.size, 2, none⟩ = some (.string ⟨#[]⟩) := by rw [Lib.cell_of_heap p3]; rfl
        have f0 := Lib.frozen_of_heap p3 0
        have f1 := Lib.frozen_of_heap p3 1
        have f2 := Lib.frozen_of_heap p3 2
        have HB := hid hb3
        have P3 := hid p3
        clear hb3 p3
        go_wp2
        obtain ⟨p4, g4⟩ := set3 P3.out (.int .i64 3) (.int .i64 0) (.string (text sv))
        refine bodyPost_ret (results_three rfl _ _ _ _ rfl (run_loadVar_row _ _ _ _ (lexV 3 sv) _ _ p4 Tryz.underlying36 rfl sizLex)) rfl ?_
        exact ⟨by rw [HO2.out]; rfl, (HB0.out.trans (HB.out.mono (by omega))).trans (g4 _ (Nat.le_refl _))⟩
      · have ze : ((se : Int) == 0) = false := by rw [beq_eq_false_iff_ne]; omega
        have HO2 : Hid _ := hid (HO.out.trans (if_neg he))
        clear HO HSE he
        go_enter Tryz.func28, Tryz.ntmps28
        go_wp2_with fail
        refine (HF.out _).mono ?_
        rintro e w2 ⟨rfl, rfl⟩
        go_wp2_with fail
        refine (HQ.out _ HE.out).mono ?_
        rintro e w3 ⟨rfl, hb3⟩
        have hz3 := hb3.size
        rw [hz0] at hz3
        have p3 := (hb3.block w.heap.size (by omega)).trans P0.out
        have d0 : w3.cell? ⟨w.heap.size, 0, none⟩ = some (.int .i64 0) := by rw [Lib.cell_of_heap p3]; rfl
        have d1 : w3.cell? ⟨w.heap.size, 1, none⟩ = some (.int .i64 0) := by rw [Lib.cell_of_heap p3]; rfl
        have d2 : w3.cell? ⟨w.heap.size, 2, none⟩ = some (.string ⟨#[]⟩) := by rw [Lib.cell_of_heap p3]; rfl
        have f0 := Lib.frozen_of_heap p3 0
        have f1 := Lib.frozen_of_heap p3 1
        have f2 := Lib.frozen_of_heap p3 2
        have HB := hid hb3
        have P3 := hid p3
        clear hb3 p3
        go_wp2
        obtain ⟨p4, g4⟩ := set3 P3.out (.int .i64 0) (.int .i64 0) (.string ⟨#[]⟩)
        refine bodyPost_ret (results_three rfl _ _ _ _ rfl (run_loadVar_row _ _ _ _ (lexV 0 []) _ _ p4 Tryz.underlying36 rfl sizLex)) rfl ?_
        exact ⟨by rw [HO2.out]; rfl, (HB0.out.trans (HB.out.mono (by omega))).trans (g4 _ (Nat.le_refl _))⟩
    · have z34 : ((c : Int) == 34) = false := by rw [beq_eq_false_iff_ne]; omega
      have hhd : l.head? ≠ some 34 := by
        intro hh
        rcases l with _ | ⟨b, r⟩
        · cases hh
        · obtain rfl : b = 34 := Option.some.inj hh
          have := rune_enc 34 (by decide) r
          rw [show enc ((34 : Nat) : Int) = [34] from enc_low (by omega)] at this
          rw [show rune (34 :: r) = (34, _) from this] at hc
          exact h34 hc.symm
      have hnu := fun w => numberEnd_any l (by omega) w
      have hnl := numN_le l
      have hxn : (text l).extract 0 (numN l) = text (l.take (numN l)) := by rw [text_cut]; rfl
      have HN := hid hnu
      by_cases hn0 : 0 < numN l
      · have HO := hid (one_number hw0 hn0)
        clear hnu hhd hck hne hc hrn hfi hw0 h34
        generalize l.take (numN l) = x at *
        generalize numN l = n at *
        have hgt : (0 : Int) < (n : Int) := by omega
        go_enter Tryz.func28, Tryz.ntmps28
        go_wp2_with fail
        refine (HF.out _).mono ?_
        rintro e w2 ⟨rfl, rfl⟩
        go_wp2_with fail
        refine (HN.out _).mono ?_
        rintro e w3 ⟨rfl, hb3⟩
        have hz3 := hb3.size
        rw [hz0] at hz3
        have p3 := (hb3.block w.heap.size (by omega)).trans P0.out
        have d0 : w3.cell? ⟨w.heap.size, 0, none⟩ = some (.int .i64 0) := by rw [Lib.cell_of_heap p3]; rfl
        have d1 : w3.cell? ⟨w.heap.size, 1, none⟩ = some (.int .i64 0) := by rw [Lib.cell_of_heap p3]; rfl
        have d2 : w3.cell? ⟨w.heap.size, 2, none⟩ = some (.string ⟨#[]⟩) := by rw [Lib.cell_of_heap p3]; rfl
        have f0 := Lib.frozen_of_heap p3 0
        have f1 := Lib.frozen_of_heap p3 1
        have f2 := Lib.frozen_of_heap p3 2
        have HB := hid hb3
        have P3 := hid p3
        clear hb3 p3
        go_wp2
        obtain ⟨p4, g4⟩ := set3 P3.out (.int .i64 2) (.int .i64 0) (.string (text x))
        refine bodyPost_ret (results_three rfl _ _ _ _ rfl (run_loadVar_row _ _ _ _ (lexV 2 x) _ _ p4 Tryz.underlying36 rfl sizLex)) rfl ?_
        exact ⟨by rw [HO.out]; rfl, (HB0.out.trans (HB.out.mono (by omega))).trans (g4 _ (Nat.le_refl _))⟩
      · have hn1 : numN l = 0 := by omega
        have hone := one_signed hw0 hn1 hhd
        have hsg := fun w hS => signEnd_any l w hS
        have hsl := signN_le l
        have hxs : (text l).extract 0 (signN l) = text (l.take (signN l)) := by rw [text_cut]; rfl
        rw [hn1] at HN
        have HG := hid hsg
        clear hnu hhd hck hne hc hrn hfi hw0 h34 hxn hn0 hn1 hsg hnl
        by_cases hs0 : signN l = 0
        · rw [if_pos hs0] at hone
          rw [hs0] at HG
          have HO := hid hone
          clear hone hxs hs0
          go_enter Tryz.func28, Tryz.ntmps28
          go_wp2_with fail
          refine (HF.out _).mono ?_
          rintro e w2 ⟨rfl, rfl⟩
          go_wp2_with fail
          refine (HN.out _).mono ?_
          rintro e w3 ⟨rfl, hb3⟩
          have hz3 := hb3.size
          rw [hz0] at hz3
          have p3 := (hb3.block w.heap.size (by omega)).trans P0.out
          have d0 : w3.cell? ⟨w.heap.size, 0, none⟩ = some (.int .i64 0) := by rw [Lib.cell_of_heap p3]; rfl
          have d1 : w3.cell? ⟨w.heap.size, 1, none⟩ = some (.int .i64 0) := by rw [Lib.cell_of_heap p3]; rfl
          have d2 : w3.cell? ⟨w.heap.size, 2, none⟩ = some (.string ⟨#[]⟩) := by rw [Lib.cell_of_heap p3]; rfl
          have f0 := Lib.frozen_of_heap p3 0
          have f1 := Lib.frozen_of_heap p3 1
          have f2 := Lib.frozen_of_heap p3 2
          have HB := hid hb3
          have P3 := hid p3
          have HS3 := hid (HS.out.below hb3 (Nat.le_refl _))
          clear hb3 p3
          go_wp2_with fail
          refine (HG.out _ HS3.out).mono ?_
          rintro e w4 ⟨rfl, rfl⟩
          go_wp2
          obtain ⟨p4, g4⟩ := set3 P3.out (.int .i64 0) (.int .i64 0) (.string ⟨#[]⟩)
          refine bodyPost_ret (results_three rfl _ _ _ _ rfl (run_loadVar_row _ _ _ _ (lexV 0 []) _ _ p4 Tryz.underlying36 rfl sizLex)) rfl ?_
          exact ⟨by rw [HO.out]; rfl, (HB0.out.trans (HB.out.mono (by omega))).trans (g4 _ (Nat.le_refl _))⟩
        · rw [if_neg hs0] at hone
          have HO := hid hone
          clear hone
          generalize l.take (signN l) = x at *
          generalize signN l = n at *
          have hgt : (0 : Int) < (n : Int) := by omega
          clear hs0
          go_enter Tryz.func28, Tryz.ntmps28
          go_wp2_with fail
          refine (HF.out _).mono ?_
          rintro e w2 ⟨rfl, rfl⟩
          go_wp2_with fail
          refine (HN.out _).mono ?_
          rintro e w3 ⟨rfl, hb3⟩
          have hz3 := hb3.size
          rw [hz0] at hz3
          have p3 := (hb3.block w.heap.size (by omega)).trans P0.out
          have d0 : w3.cell? ⟨w.heap.size, 0, none⟩ = some (.int .i64 0) := by rw [Lib.cell_of_heap p3]; rfl
          have d1 : w3.cell? ⟨w.heap.size, 1, none⟩ = some (.int .i64 0) := by rw [Lib.cell_of_heap p3]; rfl
          have d2 : w3.cell? ⟨w.heap.size, 2, none⟩ = some (.string ⟨#[]⟩) := by rw [Lib.cell_of_heap p3]; rfl
          have f0 := Lib.frozen_of_heap p3 0
          have f1 := Lib.frozen_of_heap p3 1
          have f2 := Lib.frozen_of_heap p3 2
          have HB := hid hb3
          have P3 := hid p3
          have HS3 := hid (HS.out.below hb3 (Nat.le_refl _))
          clear hb3 p3
          go_wp2_with fail
          refine (HG.out _ HS3.out).mono ?_
          rintro e w4 ⟨rfl, rfl⟩
          go_wp2
          obtain ⟨p4, g4⟩ := set3 P3.out (.int .i64 4) (.int .i64 0) (.string (text x))
          refine bodyPost_ret (results_three rfl _ _ _ _ rfl (run_loadVar_row _ _ _ _ (lexV 4 x) _ _ p4 Tryz.underlying36 rfl sizLex)) rfl ?_
          exact ⟨by rw [HO.out]; rfl, (HB0.out.trans (HB.out.mono (by omega))).trans (g4 _ (Nat.le_refl _))⟩
  · rw [hf] at hF
    have hf' : Utf.first ((rune l).1 : Int) = true := by rw [hc]; exact hf
    have hwp := wordN_pos hrn hf'
    have hwl := wordN_le l
    have hone : Fl.one l = .tok (if keyB (l.take (wordN l)) = true then 1 else 0) (l.take (wordN l)) (wordN l) := by unfold Fl.one; rw [if_pos hwp]
    have hw := fun w => words_any l hl hck hne hf' w
    have hx : (text l).extract 0 (wordN l) = text (l.take (wordN l)) := by rw [text_cut]; rfl
    have htl : (l.take (wordN l)).length = wordN l := by rw [List.length_take]; omega
    have s2 : (text (l.take (wordN l))).size = wordN l := by rw [text_size]; exact htl
    have hwd := fun mb w hm => word_any (l.take (wordN l)) (by omega) mb w hm
    have hkk := kind_key (l.take (wordN l))
    have HF := hid hF
    have HW := hid hw
    have HD := hid hwd
    have HO := hid hone
    clear hF hw hwd hone hf hf' hck hne hc hrn hfi
    generalize (if keyB (l.take (wordN l)) = true then 1 else 0 : Nat) = kk at *
    generalize l.take (wordN l) = x at *
    generalize wordN l = n at *
    unfold lexV at HD
    have mixed : Tryz.prog.follows Departure.mixedOrders = true := by kernel_rfl
    go_enter Tryz.func28, Tryz.ntmps28
    go_wp2_with fail
    refine (HF.out _).mono ?_
    rintro e w2 ⟨rfl, rfl⟩
    go_wp2_with fail
    refine (HW.out _).mono ?_
    rintro e w3 ⟨rfl, hb3⟩
    go_wp2_with fail
    refine (HD.out mb _ (HM.out.below hb3)).mono ?_
    rintro e w4 ⟨rfl, hb4⟩
    have hb14 := bt hb3 hb4
    have hz4 := hb14.size
    rw [hz0] at hz4
    have p4 := (hb14.block w.heap.size (by omega)).trans P0.out
    have p5 := (Below.heap_alloc w4 (.cells #[.int .i64 kk, .int .i64 0, .string (text x)] 36) w.heap.size (by omega)).trans p4
    have d0 : (w4.alloc (.cells #[.int .i64 kk, .int .i64 0, .string (text x)] 36)).cell? ⟨w.heap.size, 0, none⟩ = some (.int .i64 0) := by rw [Lib.cell_of_heap p5]; rfl
    have d1 : (w4.alloc (.cells #[.int .i64 kk, .int .i64 0, .string (text x)] 36)).cell? ⟨w.heap.size, 1, none⟩ = some (.int .i64 0) := by rw [Lib.cell_of_heap p5]; rfl
    have d2 : (w4.alloc (.cells #[.int .i64 kk, .int .i64 0, .string (text x)] 36)).cell? ⟨w.heap.size, 2, none⟩ = some (.string ⟨#[]⟩) := by rw [Lib.cell_of_heap p5]; rfl
    have f0 := Lib.frozen_of_heap p5 0
    have f1 := Lib.frozen_of_heap p5 1
    have f2 := Lib.frozen_of_heap p5 2
    have HB := hid hb14
    have P5 := hid p5
    clear hb3 hb4 hb14 p4 p5
    go_wp2_with fail
    go_region
    go_wp2
    obtain ⟨p3, g3⟩ := set3 P5.out (.int .i64 kk) (.int .i64 0) (.string (text x))
    refine bodyPost_ret (results_three rfl _ _ _ _ rfl (run_loadVar_row _ _ _ _ (lexV kk x) _ _ p3 Tryz.underlying36 rfl sizLex)) rfl ?_
    refine ⟨by rw [HO.out]; rfl, below_drew ?_⟩
    exact (((HB0.out.trans (HB.out.mono (by omega))).alloc (by omega) _)).trans (g3 _ (Nat.le_refl _))
end Go.Proofs.YtkmdclfkmmlloaaGreatDoor.Fx
namespace Go.Proofs.YtkmdclfkmmlloaaGreatDoor.Fx
open Go Go.Proofs.YtkmdclfkmmlloaaGreatDoor Go.Proofs.YtkmdclfkmmlloaaGreatDoor.Utf Go.Proofs.YtkmdclfkmmlloaaGreatDoor.Names Go.Proofs.YtkmdclfkmmlloaaGreatDoor.Fl Go.RowKit
set_option maxRecDepth 100000

/-- Pieces of the same length, one behind the other. -/
theorem flat_get {α β : Type} (k : Nat) (f : α → List β) (hf : ∀ x, (f x).length = k) (l : List α) (i j : Nat) (hj : j < k) : (l.flatMap f)[i * k + j]? = (l[i]?).bind fun x => (f x)[j]? := by
  induction l generalizing i with
  | nil => simp
  | cons x l ih =>
    rw [List.flatMap_cons]
    cases i with
    | zero => rw [Nat.zero_mul, Nat.zero_add, List.getElem?_append_left (by rw [hf]; exact hj)]; rfl
    | succ i =>
      rw [List.getElem?_append_right (by rw [hf, Nat.succ_mul]; omega), hf, show (i + 1) * k + j - k = i * k + j from by rw [Nat.succ_mul]; omega, ih]
      rfl
/-- A token, of any numbers. -/
structure Lz where
  kind : Int
  place : Int
  s : List UInt8
def lz (t : Lx) : Lz := ⟨t.kind, t.place, t.s⟩
def lzCells (t : Lz) : List Value := [.int .i64 t.kind, .int .i64 t.place, .string (text t.s)]
/-- A row of tokens. -/
def Lexs (w : World) (v : Value) (l : List Lz) : Prop := Row 3 w v l.length (l.flatMap lzCells)
/-- A row of tokens that the call owns. -/
def OwnL (B : Nat) (w : World) (v : Value) (l : List Lz) : Prop := w.ownsRow B 36 3 v l.length (l.flatMap lzCells)
section
variable {w w' : World} {v v' : Value} {l : List Lz}
theorem OwnL.lexs {B : Nat} (h : OwnL B w v l) (hn : l.length ≤ 281474976710656) : Lexs w v l := Row.ofOwns h hn
theorem OwnL.nil (B : Nat) (w : World) : OwnL B w (.slice none 0 0) [] := ⟨by simp, .inl ⟨rfl, rfl⟩⟩
theorem OwnL.later {B : Nat} (h : OwnL B w v l) (hb : Below w.heap.size w w') : OwnL B w' v l := owns_later h hb
theorem OwnL.snoc {B : Nat} {t : Lz} (h : w'.ownsRow B 36 3 v' (l.length + 1) (l.flatMap lzCells ++ lzCells t)) : OwnL B w' v' (l ++ [t]) := by
  unfold OwnL
  rw [List.length_append, List.flatMap_append, List.flatMap_singleton]
  exact h
theorem OwnL.base {B B' : Nat} (h : OwnL B w v l) (hB : B' ≤ B) : OwnL B' w v l := by
  obtain ⟨h1, h2⟩ := h
  refine ⟨h1, ?_⟩
  rcases h2 with h2 | ⟨g, cap, cur, hv, hg, r⟩
  · exact .inl h2
  · exact .inr ⟨g, cap, cur, hv, Nat.le_trans hB hg, r⟩
theorem Lexs.nil (w : World) : Lexs w (.slice none 0 0) [] := Row.nil 3 w
theorem Lexs.below (h : Lexs w v l) {B : Nat} (hb : Below B w w') (hB : w.heap.size ≤ B) : Lexs w' v l := Row.below h hb hB
theorem Lexs.len {P : Program} (h : Lexs w v l) (t ty e : TypeId) (ht : P.underlying t = some (.slice e)) (W : World) : (Builtin.len_ #[t] ty #[v]).run P W = .ok (.int .i64 l.length) W := Row.len h t ty e ht W
theorem Lexs.at {P : Program} (h : Lexs w v l) (i : Nat) (hi : i < l.length) (t e : TypeId) (ht : P.underlying t = some (.slice e)) (hs : ∀ W, (sizeOf e).run P W = .ok 3 W) :
    ∃ b o, (∀ k W, (Instr.indexAt t v (.int k i)).run P W = .ok (.pointer (some ⟨b, o, none⟩)) W) ∧
      w.cell? ⟨b, o, none⟩ = some (.int .i64 l[i].kind) ∧ w.cell? ⟨b, o + 1, none⟩ = some (.int .i64 l[i].place) ∧ w.cell? ⟨b, o + 2, none⟩ = some (.string (text l[i].s)) := by
  obtain ⟨b, o, a1, a2⟩ := Row.at h (by omega) i hi t e ht hs
  have g : ∀ j, j < 3 → (l.flatMap lzCells)[i * 3 + j]? = (lzCells l[i])[j]? := fun j hj => by
    rw [flat_get 3 lzCells (fun _ => rfl) l i j hj, List.getElem?_eq_getElem hi]; rfl
  exact ⟨b, o, a1, by simpa using a2 0 _ (by omega) (by rw [g 0 (by omega)]; rfl), a2 1 _ (by omega) (by rw [g 1 (by omega)]; rfl), a2 2 _ (by omega) (by rw [g 2 (by omega)]; rfl)⟩
end

theorem text_eq (a b : List UInt8) : ((text a).toList == (text b).toList) = decide (a = b) := by
  rw [Names.text_list, Names.text_list]
  by_cases h : a = b
  · rw [decide_eq_true h, beq_iff_eq]; exact h
  · rw [decide_eq_false h, beq_eq_false_iff_ne]; exact h

theorem undLs : Tryz.prog.underlying 31 = some (.slice 36) := Tryz.underlying31
theorem sizL (W : World) : (sizeOf 36).run Tryz.prog W = .ok 3 W := Tryz.sizeOf36 W

end Go.Proofs.YtkmdclfkmmlloaaGreatDoor.Fx
namespace Go.Proofs.YtkmdclfkmmlloaaGreatDoor.Fx
open Go Go.Proofs.YtkmdclfkmmlloaaGreatDoor Go.Proofs.YtkmdclfkmmlloaaGreatDoor.Utf Go.Proofs.YtkmdclfkmmlloaaGreatDoor.Names Go.Proofs.YtkmdclfkmmlloaaGreatDoor.Ent Go.Proofs.YtkmdclfkmmlloaaGreatDoor.Fl Go.RowKit
set_option maxRecDepth 100000

/-- Where the walk through a text stands. -/
def Lexed (l : List UInt8) (pos e : Nat) (ts : List Lx) : Prop :=
  Edge l pos ∧ Edge l (max pos e) ∧ lexp 0 l = joinS ts (lexp (max pos e) (l.drop (max pos e))) ∧ ts.length ≤ max pos e
theorem join_nil (x : Except (Nat × Nat) (List Lx)) : joinS [] x = x := by cases x <;> rfl
theorem join_cons (ts : List Lx) (t : Lx) (x : Except (Nat × Nat) (List Lx)) : joinS ts (cons1 t x) = joinS (ts ++ [t]) x := by
  cases x with
  | ok us => show Except.ok (ts ++ t :: us) = Except.ok ((ts ++ [t]) ++ us); rw [List.append_assoc]; rfl
  | error e => rfl
theorem Lexed.start {l : List UInt8} (h : check l = l.length) : Lexed l 0 0 [] := ⟨Edge.start h, Edge.start h, (join_nil _).symm, by simp⟩
section
variable {l : List UInt8} {pos e : Nat} {ts : List Lx}
theorem Lexed.wait (h : Lexed l pos e ts) (hp : pos < l.length) (hlt : pos < e) : Lexed l (pos + (rune (l.drop pos)).2) e ts := by
  obtain ⟨h1, h2, h3, h4⟩ := h
  have hs := h1.step hp
  rw [Nat.max_eq_right (by omega)] at h2 h3 h4
  have ho := h1.over h2 hlt
  unfold Lexed
  rw [Nat.max_eq_right ho]
  exact ⟨hs.2.2.1, h2, h3, h4⟩
theorem first_byte (hp : Edge l pos) (h : pos < l.length) : ∃ b r, l.drop pos = b :: r ∧ (Utf.space ((rune (l.drop pos)).1 : Int) = Utf.space (b.toNat : Int)) ∧ (Utf.space (b.toNat : Int) = true → (rune (l.drop pos)).2 = 1) := by
  have hs := hp.step h
  have hdr : l.drop pos = l[pos] :: l.drop (pos + 1) := List.drop_eq_getElem_cons h
  refine ⟨_, _, hdr, ?_, ?_⟩
  · cases hc : Utf.space ((rune (l.drop pos)).1 : Int)
    · cases hb : Utf.space ((l[pos]).toNat : Int)
      · rfl
      · have hsp := (Utf.space_iff _).1 hb
        have hlow : (l[pos]).toNat < 128 := by omega
        have hn : nth (l.drop pos) 0 < 128 := by rw [hdr]; exact hlow
        have := rune_low hs.1 (j := 0) (by omega) hn
        rw [this] at hc
        have e0 : nth (l.drop pos) 0 = (l[pos]).toNat := by rw [hdr]; rfl
        rw [e0] at hc
        rw [hb] at hc; cases hc
    · have hsp := (Utf.space_iff _).1 hc
      obtain ⟨t, ht, _⟩ := rune_is (c := (rune (l.drop pos)).1) hs.1 rfl (by omega)
      rw [hdr] at ht
      injection ht with ht _
      have e0 : (l[pos]).toNat = (rune (l.drop pos)).1 := by
        rw [ht]
        have : (rune (l.drop pos)).1 < 256 := by omega
        rw [← hdr]
        exact UInt8.toNat_ofNat_of_lt' (by show _ < 256; omega)
      rw [e0]; exact hc.symm
  · intro hb
    have hsp := (Utf.space_iff _).1 hb
    have hn : nth (l.drop pos) 0 < 128 := by rw [hdr]; show (l[pos]).toNat < 128; omega
    have := rune_low hs.1 (j := 0) (by omega) hn
    rw [this]
theorem Lexed.blank (h : Lexed l pos e ts) (hp : pos < l.length) (hlt : ¬ pos < e) (hs : Utf.space ((rune (l.drop pos)).1 : Int) = true) : Lexed l (pos + (rune (l.drop pos)).2) e ts := by
  obtain ⟨h1, h2, h3, h4⟩ := h
  rw [Nat.max_eq_left (by omega)] at h2 h3 h4
  obtain ⟨b, r, hbr, hsb, hk⟩ := first_byte h1 hp
  have hb : Utf.space (b.toNat : Int) = true := by rw [← hsb]; exact hs
  have hk1 := hk hb
  have hst := h1.step hp
  unfold Lexed
  rw [Nat.max_eq_left (by omega)]
  refine ⟨hst.2.2.1, hst.2.2.1, ?_, by omega⟩
  rw [h3, hk1, hbr, lexp_space hb, ← List.drop_drop, hbr]
  rfl
theorem Lexed.token (h : Lexed l pos e ts) (hp : pos < l.length) (hlt : ¬ pos < e) (hs : Utf.space ((rune (l.drop pos)).1 : Int) = false) {k n : Nat} {s : List UInt8} (ho : Fl.one (l.drop pos) = .tok k s n) :
    Lexed l (pos + (rune (l.drop pos)).2) (pos + n) (ts ++ [⟨k, pos, s⟩]) ∧ pos + n ≤ l.length := by
  obtain ⟨h1, h2, h3, h4⟩ := h
  rw [Nat.max_eq_left (by omega)] at h2 h3 h4
  obtain ⟨b, r, hbr, hsb, _⟩ := first_byte h1 hp
  have hb : Utf.space (b.toNat : Int) = false := by rw [← hsb]; exact hs
  have hpo := one_pos ho
  rw [List.length_drop] at hpo
  have hck := one_check h1.2 ho
  have hE := h1.behind (n := n) (by omega) hck
  have hst := h1.step hp
  have hov := h1.over hE (by omega)
  unfold Lexed
  rw [Nat.max_eq_right hov]
  refine ⟨⟨hst.2.2.1, hE, ?_, by rw [List.length_append]; simp; omega⟩, by omega⟩
  rw [hbr] at ho
  rw [h3, hbr, lexp_tok hb ho, join_cons, ← hbr, List.drop_drop]
theorem Lexed.bad (h : Lexed l pos e ts) (hp : pos < l.length) (hlt : ¬ pos < e) (hs : Utf.space ((rune (l.drop pos)).1 : Int) = false) {p x : Nat} (ho : Fl.one (l.drop pos) = .bad p x) :
    lexp 0 l = .error (pos + p, x) := by
  obtain ⟨h1, h2, h3, h4⟩ := h
  rw [Nat.max_eq_left (by omega)] at h2 h3 h4
  obtain ⟨b, r, hbr, hsb, _⟩ := first_byte h1 hp
  have hb : Utf.space (b.toNat : Int) = false := by rw [← hsb]; exact hs
  rw [hbr] at ho
  rw [h3, hbr, lexp_bad hb ho]
  rfl
theorem Lexed.done (h : Lexed l pos e ts) (hp : ¬ pos < l.length) : lexp 0 l = .ok (ts ++ [⟨5, l.length, []⟩]) := by
  obtain ⟨h1, h2, h3, h4⟩ := h
  have e1 : max pos e = l.length := by have := h2.1; omega
  rw [e1, List.drop_length, lexp_nil] at h3
  rw [h3]; rfl
theorem Lexed.many (h : Lexed l pos e ts) : ts.length ≤ l.length := by
  have := h.2.2.2; have := h.2.1.1; omega
end
theorem bad_errs {l : List UInt8} {p x : Nat} (h : Fl.one l = .bad p x) : x = 10 ∨ x = 11 := by
  unfold Fl.one at h
  split at h
  · cases h
  · split at h
    · cases h
    · split at h
      · unfold Fl.quoted at h
        split at h
        · cases h
        · rename_i hne
          injection h with _ h
          have := (str_facts _ (l.drop 1) rfl).2.1
          omega
      · split at h
        · injection h with _ h; omega
        · cases h
theorem bad_place {l : List UInt8} {p x : Nat} (h : Fl.one l = .bad p x) (hl : l ≠ []) : p ≤ l.length := by
  unfold Fl.one at h
  split at h
  · cases h
  · split at h
    · cases h
    · split at h
      · unfold Fl.quoted at h
        split at h
        · cases h
        · injection h with h _
          have := (str_facts _ (l.drop 1) rfl).1
          have := List.length_pos_iff.2 hl
          simp only [List.length_drop] at *
          omega
      · split at h
        · injection h with h _; omega
        · cases h

theorem infoLex : (Tryz.prog.info? 36).map (fun i => (i.zero, i.size, i.bytes)) = some (some (.agg #[.int .i64 0, .int .i64 0, .string ⟨#[]⟩]), 3, 32) := by kernel_rfl
/-- What the tokens of a text are, as the code hands them on. -/
def GotL (B : Nat) (l : List UInt8) (e : Ending) (w : World) : Prop :=
  if check l = l.length then (match lexp 0 l with
    | .ok ts => ∃ v, e = .returned (.tuple #[v, .int .i64 l.length, .int .i64 0]) ∧ OwnL B w v (ts.map lz)
    | .error x => e = .returned (.tuple #[.slice none 0 0, .int .i64 x.1, .int .i64 x.2]))
  else e = .returned (.tuple #[.slice none 0 0, .int .i64 (check l), .int .i64 4])
theorem own_iterAt {B k : Nat} {w : World} {v : Value} {ts : List Lz} (h : OwnL B w v ts) (hk : k < B) (s : ByteArray) (pos : Nat) : OwnL B (w.iterAt k s pos) v ts :=
  World.ownsRow.kept h (row := some k) ⟨rfl, rfl, rfl, by rw [Lib.iterAt_size]; exact Nat.le_refl _, fun j _ hj => Lib.iterAt_other w k j s pos (fun e => hj (by rw [e]))⟩ (.inr (fun e => by have := (h.lt k e).1; omega))

set_option maxHeartbeats 8000000 in
theorem Lex_any (l : List UInt8) (hl : l.length ≤ 100000) (w : World) (hE : Errs w) (hS : Signs w) :
    Calls Tryz.prog 11 #[.string (text l)] w fun e w' => GotL w.heap.size l e w' ∧ Below w.heap.size w w' := by
  obtain ⟨i0, hi, hz0, hz1, hz2⟩ := info_parts infoLex
  have s1 : (text l).size = l.length := text_size l
  obtain ⟨vb, w1, hcv, hvb, hb1, _⟩ := conv_at (P := Tryz.prog) l (by omega) 9 53 5 under9 underB under8 w
  have hck := Check_any vb l w1 (hvb w1 rfl)
  have HCK := hid hck
  have HB1 := hid hb1
  clear hck hvb hb1
  have hgl : ∀ e w', GotL w.heap.size l e w' = if check l = l.length then (match lexp 0 l with
    | .ok ts => ∃ v, e = .returned (.tuple #[v, .int .i64 l.length, .int .i64 0]) ∧ OwnL w.heap.size w' v (ts.map lz)
    | .error x => e = .returned (.tuple #[.slice none 0 0, .int .i64 x.1, .int .i64 x.2]))
  else e = .returned (.tuple #[.slice none 0 0, .int .i64 (check l), .int .i64 4]) := fun _ _ => rfl
  by_cases hc : check l = l.length
  · have he := checkE_ok hc
    rw [he] at HCK
    have hgl2 : ∀ e w', GotL w.heap.size l e w' = _ := fun e w' => (hgl e w').trans (if_pos hc)
    have HG := hid hgl2
    have hst := Lexed.start hc
    have hx : ∀ pos, (text l).extract pos l.length = text (l.drop pos) := fun pos => by have := text_extract l pos; rwa [s1] at this
    have HX := hid hx
    have HT := hid hst
    have HEE := hid hE
    have HSS := hid hS
    have HW := hid (fun pos e ts (h : Lexed l pos e ts) => h.wait)
    have HBl := hid (fun pos e ts (h : Lexed l pos e ts) => h.blank)
    have HTk := hid (fun pos e ts (h : Lexed l pos e ts) => @h.token)
    have HBd := hid (fun pos e ts (h : Lexed l pos e ts) => @h.bad)
    have HD := hid (fun pos e ts (h : Lexed l pos e ts) => h.done)
    have HMn := hid (fun pos e ts (h : Lexed l pos e ts) => h.many)
    have HF := hid (fun pos e ts (h : Lexed l pos e ts) (hp : pos < l.length) => h.1.step hp)
    have HCh := hid (fun pos e ts (h : Lexed l pos e ts) => h.1.2)
    generalize Lexed l = T at *
    clear he hgl hgl2 hst hE hS hx
    go_enter Tryz.func11, Tryz.ntmps11
    go_wp2_with fail
    refine HCK.out.mono ?_
    rintro e w2 ⟨rfl, hb2⟩
    have HB2 := hid (bt HB1.out hb2)
    clear hb2 hcv hc
    go_wp2_with fail
    refine (keywords_is _).mono ?_
    rintro e w3 ⟨mb, rfl, hm, hle, hb3⟩
    have HB3 := hid (bt HB2.out hb3)
    have hz3 : w.heap.size ≤ w3.heap.size := HB3.out.size
    have HM := hid hm
    clear hm hb3
    go_wp2_with fail
    go_loopw [7, 9] (fun tv ev wr => ∃ (pos e : Nat) (ts : List Lx), ev = .int .i64 e ∧ wr.heap[w3.heap.size]? = some (.stringIter (text l) pos) ∧ Hid (T pos e ts) ∧ OwnL (w3.heap.size + 1) wr tv (ts.map lz) ∧ Below w3.heap.size w3 wr ∧ w3.heap.size + 1 ≤ wr.heap.size) (fun _ _ wr => l.length - wr.iterPos w3.heap.size)
    case atStart =>
      exact ⟨0, 0, [], rfl, heap_alloc_new w3 _, HT, OwnL.nil _ _, ba (b0 w3) _, by
        show w3.heap.size + 1 ≤ (w3.alloc (.stringIter (text l) 0)).heap.size
        simp⟩
    case round =>
      rename World => wr
      obtain ⟨pos, e, ts, rfl, hit, HST, hOw, hbr, hzr⟩ := hrel
      have hmn := HMn.out pos e ts HST.out
      by_cases hp : pos < l.length
      · have hps : pos < (text l).size := by rw [s1]; exact hp
        have hnx : ∀ ty, (Instr.next (.pointer (some ⟨w3.heap.size, 0, none⟩)) true ty).run Tryz.prog wr = _ := fun ty => Lib.run_next_any_at wr w3.heap.size (text l) pos ty hit hps
        obtain ⟨hne, hfi, _, hdec⟩ := HF.out pos e ts HST.out hp
        rw [hdec] at hnx
        have hk1 : 1 ≤ (rune (l.drop pos)).2 := by omega
        have hfl : ((rune (l.drop pos)).1 : Int) ≤ 1114111 := by have := (nfine_iff _).1 hfi; omega
        have hnew := Lib.iterAt_heap wr w3.heap.size (text l) pos (pos + (rune (l.drop pos)).2) hit
        have hnb := Lib.below_iterAt hbr (k := w3.heap.size) (by omega) (text l) (pos + (rune (l.drop pos)).2)
        have hno := own_iterAt hOw (k := w3.heap.size) (by omega) (text l) (pos + (rune (l.drop pos)).2)
        have hnz := Lib.iterAt_size wr w3.heap.size (text l) (pos + (rune (l.drop pos)).2)
        have hmeas := iter_is hit
        have hdl : (l.drop pos).length = l.length - pos := List.length_drop
        have hfr := fun w hm hE hS => front_any (l.drop pos) (by omega) (HCh.out pos e ts HST.out) (fun x => by rw [x] at hdl; simp at hdl; omega) _ rfl mb w hm hE hS
        have hsp := fun w => Space_any ((rune (l.drop pos)).1 : Int) w
        have W1 := hid (HW.out pos e ts HST.out hp)
        have B1 := hid (HBl.out pos e ts HST.out hp)
        have T1 := hid (@(HTk.out pos e ts HST.out hp))
        have D1 := hid (@(HBd.out pos e ts HST.out hp))
        have X1 := HX.out pos
        have HN := hid hnew
        have HNB := hid hnb
        have HNO := hid hno
        have HMe := hid hmeas
        have HFR := hid hfr
        have hml : (l.drop pos) ≠ [] := fun x => by rw [x] at hdl; simp at hdl; omega
        have HML := hid hml
        clear hit hOw hbr hnew hnb hno hmeas hps hne hfi hdec hfr hml
        generalize l.drop pos = m at *
        generalize rune m = q at *
        obtain ⟨c, k⟩ := q
        dsimp only at hnx hk1 hfl HN HNB HNO hnz W1 B1 T1 D1 HFR hsp
        generalize wr.iterAt w3.heap.size (text l) (pos + k) = w4 at *
        have hz4 : w3.heap.size + 1 ≤ w4.heap.size := by omega
        by_cases hlt : pos < e
        · have R := hid (W1.out hlt)
          go_wp2_with fail
          go_roundw
          case rel => exact ⟨pos + k, e, ts, rfl, HN.out, R, HNO.out, HNB.out, hz4⟩
          case measure => rw [HMe.out, iter_is HN.out]; omega
        · cases hs : Utf.space (c : Int)
          · rw [hs] at hsp
            have HSP := hid hsp
            have hb4 := HB3.out.trans (HNB.out.mono hz3)
            have HF4 := hid (HFR.out w4 (HM.out.below HNB.out) (HEE.out.below hb4 (Nat.le_refl _)) (HSS.out.below hb4 (Nat.le_refl _)))
            clear hsp hb4
            cases ho : Fl.one m with
            | bad p x =>
              have R := hid (D1.out hlt hs ho)
              have hx := bad_errs ho
              have hpp := bad_place ho HML.out
              have zx : ((x : Int) == 0) = false := by rw [beq_eq_false_iff_ne]; omega
              rw [ho] at HF4
              unfold frontV lexV at HF4
              clear ho hs hx
              go_wp2_with fail
              refine (HSP.out _).mono ?_
              rintro ee w5 ⟨rfl, rfl⟩
              go_wp2_with fail
              refine HF4.out.mono ?_
              rintro ee w6 ⟨rfl, hb6⟩
              have hz6 := hb6.size
              go_wp2
              go_ret3
              refine ⟨?_, HB3.out.trans (((HNB.out.trans (hb6.mono (by omega))).alloc (by omega) _).mono hz3)⟩
              rw [HG.out, R.out]
              show Ending.returned _ = Ending.returned (.tuple #[.slice none 0 0, .int .i64 ((pos + p : Nat) : Int), .int .i64 x])
              rw [show ((pos + p : Nat) : Int) = (pos : Int) + p from by omega]
              rfl
            | tok kk s n =>
              obtain ⟨hT2, hpn⟩ := T1.out hlt hs ho
              have R := hid hT2
              rw [ho] at HF4
              unfold frontV lexV at HF4
              clear ho hs hT2
              go_wp2_with fail
              refine (HSP.out _).mono ?_
              rintro ee w5 ⟨rfl, rfl⟩
              go_wp2_with fail
              refine HF4.out.mono ?_
              rintro ee w6 ⟨rfl, hb6⟩
              have HB6 := hid hb6
              have HO6 := hid (HNO.out.later hb6)
              have hz6 := hb6.size
              have HI6 := hid ((hb6.block w3.heap.size (by omega)).trans HN.out)
              clear hb6
              have ho7 : ((w6.alloc (.cells #[.int .i64 kk, .int .i64 pos, .string (text s)] 36)).alloc (.cells #[.int .i64 kk, .int .i64 pos, .string (text s)] 36)).ownsRow (w3.heap.size + 1) 36 3 u7 (ts.map lz).length ((ts.map lz).flatMap lzCells) := HO6.out.later (ba (ba (b0 w6) _) _)
              have hrow := Row.ofBuild (sz := 3) (w6.alloc (.cells #[.int .i64 kk, .int .i64 pos, .string (text s)] 36)) #[.int .i64 kk, .int .i64 pos, .string (text s)] 36 1 rfl (by omega)
              rw [show (w6.alloc (.cells #[.int .i64 kk, .int .i64 pos, .string (text s)] 36)).heap.size = w6.heap.size + 1 from by simp] at hrow
              have HRow := hid hrow
              have HO7 := hid ho7
              clear ho7 hrow
              go_wp2_with (at_builtin; refine wpList_append_row rfl _ _ 31 rfl (w3.heap.size + 1) 36 i0 _ 3 32 undLs hi hz0 hz1 hz2 rfl (by decide) _ _ _ rfl HO7.out _ 1 [.int .i64 kk, .int .i64 pos, .string (text s)] rfl HRow.out ?d0 ?d1 ?d2 ?d3 ?_)
              case d0 => intro u hu; simp only [List.mem_cons, List.mem_nil_iff, or_false] at hu; rcases hu with rfl | rfl | rfl <;> rfl
              case d1 => simp only [List.length_map]; omega
              case d2 => simp only [List.length_map]; unfold maxLen; omega
              case d3 => simp; omega
              intro v7 w7 hown7 hg7
              have hb7 : Below w3.heap.size w3 w7 := ((((HNB.out.trans (HB6.out.mono (by omega))).alloc (by omega) _).alloc (by simp; omega) _)).grown hg7 (by simp; omega) (fun k hk => by have := (HO7.out.lt k hk).1; omega)
              have hi7 : w7.heap[w3.heap.size]? = some (.stringIter (text l) (pos + k)) := (hg7.block w3.heap.size (by simp; omega) (fun e => by have := (HO7.out.lt _ e.symm).1; omega)).trans ((Below.heap_alloc _ _ _ (by simp; omega)).trans ((Below.heap_alloc _ _ _ (by omega)).trans HI6.out))
              have HO8 := hid (OwnL.snoc (l := ts.map lz) (t := lz ⟨kk, pos, s⟩) (by rw [List.length_map]; exact hown7))
              have HB7 := hid hb7
              have HI7 := hid hi7
              have hz7 : w3.heap.size + 1 ≤ w7.heap.size := by have := hg7.size; simp at this; omega
              clear hown7 hg7 hb7 hi7
              go_wp2_with fail
              go_roundw
              case rel => exact ⟨pos + k, pos + n, ts ++ [⟨kk, pos, s⟩], by go_num, HI7.out, R, by rw [List.map_append]; exact HO8.out, HB7.out, hz7⟩
              case measure => rw [HMe.out, iter_is HI7.out]; omega
          · rw [hs] at hsp
            have HSP := hid hsp
            have R := hid (B1.out hlt hs)
            clear hsp hs
            go_wp2_with fail
            refine (HSP.out _).mono ?_
            rintro ee w5 ⟨rfl, rfl⟩
            go_wp2_with fail
            go_roundw
            case rel => exact ⟨pos + k, e, ts, rfl, HN.out, R, HNO.out, HNB.out, hz4⟩
            case measure => rw [HMe.out, iter_is HN.out]; omega
      · have hps : ¬ pos < (text l).size := by rw [s1]; exact hp
        have hnx : ∀ ty, (Instr.next (.pointer (some ⟨w3.heap.size, 0, none⟩)) true ty).run Tryz.prog wr = _ := fun ty => Lib.run_next_end_at wr w3.heap.size (text l) pos ty hit hps
        have R := hid (HD.out pos e ts HST.out hp)
        have HBR := hid hbr
        have ho7 : (wr.alloc (.cells #[.int .i64 5, .int .i64 l.length, .string ⟨#[]⟩] 36)).ownsRow (w3.heap.size + 1) 36 3 u7 (ts.map lz).length ((ts.map lz).flatMap lzCells) := hOw.later (ba (b0 wr) _)
        have HRow := hid (Row.ofBuild (sz := 3) wr #[.int .i64 5, .int .i64 l.length, .string ⟨#[]⟩] 36 1 rfl (by omega))
        have HO7 := hid ho7
        clear hit hbr hps hOw ho7
        go_wp2_with (at_builtin; refine wpList_append_row rfl _ _ 31 rfl (w3.heap.size + 1) 36 i0 _ 3 32 undLs hi hz0 hz1 hz2 rfl (by decide) _ _ _ rfl HO7.out _ 1 [.int .i64 5, .int .i64 l.length, .string ⟨#[]⟩] rfl HRow.out ?e0 ?e1 ?e2 ?e3 ?_)
        case e0 => first | exact ⟨rfl, rfl, rfl⟩ | (intro u hu; simp only [List.mem_cons, List.mem_nil_iff, or_false] at hu; rcases hu with rfl | rfl | rfl <;> rfl)
        case e1 => first | omega | (simp only [List.length_map]; omega)
        case e2 => first | (unfold maxLen; omega) | (simp only [List.length_map]; unfold maxLen; omega)
        case e3 => first | omega | (simp; omega)
        intro v7 w7 hown7 hg7
        have hb7 : Below w3.heap.size w3 w7 := (HBR.out.alloc (by omega) _).grown hg7 (by simp; omega) (fun k hk => by have := (HO7.out.lt k hk).1; omega)
        have HO8 := hid (OwnL.snoc (l := ts.map lz) (t := lz ⟨5, l.length, []⟩) (by rw [List.length_map]; exact hown7))
        have HB7 := hid hb7
        clear hown7 hg7 hb7
        go_wp2
        go_ret3
        refine ⟨?_, HB3.out.trans (HB7.out.mono hz3)⟩
        rw [HG.out, R.out]
        refine ⟨v7, rfl, ?_⟩
        rw [List.map_append]
        exact HO8.out.base (by omega)
  · have he := checkE_no hc
    rw [he] at HCK
    have hgl2 : ∀ e w', GotL w.heap.size l e w' = _ := fun e w' => (hgl e w').trans (if_neg hc)
    have HG := hid hgl2
    clear he hgl hgl2 hc hE hS
    generalize check l = n at *
    go_enter Tryz.func11, Tryz.ntmps11
    go_wp2_with fail
    refine HCK.out.mono ?_
    rintro e w2 ⟨rfl, hb2⟩
    go_wp2
    go_ret3
    exact ⟨by rw [HG.out]; rfl, bt HB1.out hb2⟩
end Go.Proofs.YtkmdclfkmmlloaaGreatDoor.Fx
namespace Go.Proofs.YtkmdclfkmmlloaaGreatDoor.Fx
open Go Go.Proofs.YtkmdclfkmmlloaaGreatDoor Go.Proofs.YtkmdclfkmmlloaaGreatDoor.Utf Go.Proofs.YtkmdclfkmmlloaaGreatDoor.Names Go.Proofs.YtkmdclfkmmlloaaGreatDoor.Ent Go.Proofs.YtkmdclfkmmlloaaGreatDoor.Fl Go.RowKit
set_option maxRecDepth 100000

/-- What the statements ask of the world. -/
def Fit (w : World) : Prop := Errs w ∧ Signs w
theorem Fit.below {w w' : World} (h : Fit w) {B : Nat} (hb : Below B w w') (hB : w.heap.size ≤ B) : Fit w' := ⟨h.1.below hb hB, h.2.below hb hB⟩

theorem GotL.ok {B : Nat} {l : List UInt8} {e : Ending} {w : World} (h : GotL B l e w) (hc : check l = l.length) {ts : List Lx} (hl : lexp 0 l = .ok ts) : ∃ v, e = .returned (.tuple #[v, .int .i64 l.length, .int .i64 0]) ∧ OwnL B w v (ts.map lz) := by
  unfold GotL at h
  rw [if_pos hc, hl] at h
  exact h
theorem GotL.bad {B : Nat} {l : List UInt8} {e : Ending} {w : World} (h : GotL B l e w) (hc : check l = l.length) {x : Nat × Nat} (hl : lexp 0 l = .error x) : e = .returned (.tuple #[.slice none 0 0, .int .i64 x.1, .int .i64 x.2]) := by
  unfold GotL at h
  rw [if_pos hc, hl] at h
  exact h
end Go.Proofs.YtkmdclfkmmlloaaGreatDoor.Fx
