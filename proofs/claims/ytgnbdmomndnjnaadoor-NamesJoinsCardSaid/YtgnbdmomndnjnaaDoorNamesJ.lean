/- Layer 2: the walk of the statement NamesJoins. -/
import Derived.Test.YtgnbdmomndnjnaaDoorNamesP
set_option linter.unusedVariables false
set_option linter.unusedSimpArgs false
namespace Go.Proofs.YtgnbdmomndnjnaaDoor.Names
open Go Go.Proofs.YtgnbdmomndnjnaaDoor Go.Proofs.YtgnbdmomndnjnaaDoor.Utf Go.RowKit
set_option maxRecDepth 100000

theorem words_left {l m : List UInt8} (h : wordsO l = none) : wordsO (l ++ 32 :: m) = none := by rw [words_between, h]
theorem words_right {l m : List UInt8} (h : wordsO m = none) : wordsO (l ++ 32 :: m) = none := by rw [words_between, h]; cases wordsO l <;> rfl
theorem words_pieces {l : List UInt8} {a : List (List UInt8)} (h : wordsO l = some a) : joined a = l ∧ a.length ≤ l.length + 1 ∧ ∀ p ∈ a, p.length ≤ l.length := by
  unfold wordsO at h
  split at h
  · cases h
    exact ⟨joined_cut l, cutAt_length 32 l, fun p hp => cutAt_piece 32 l p hp⟩
  · cases h
theorem joined_next (a : List (List UInt8)) (k : Nat) (x : List UInt8) (hx : a[k]? = some x) : joined (a.take (k + 1)) = if k = 0 then x else joined (a.take k) ++ 32 :: x := by
  rw [List.take_add_one, hx]
  by_cases h : k = 0
  · subst h; simp [joined]
  · rw [if_neg h]
    have hl := (List.getElem?_eq_some_iff.1 hx).1
    exact joined_snoc _ _ (fun e => by have := congrArg List.length e; rw [List.length_take, List.length_nil] at this; omega)

theorem size_one (c : UInt8) : (⟨#[c]⟩ : ByteArray).size = 1 := rfl
theorem size_two (c d : UInt8) : (⟨#[c, d]⟩ : ByteArray).size = 2 := rfl

/-- append, where a test ahead has asked for it. -/
theorem wpList_append_if {P : Program} {w : World} {ops : Array Oper} {rest : List Oper} {o : Oper} {a : Act} {Q : Exit → Act → World → Prop} (hw : Region.wanted o (yielded ops a.tmps) = true) (s x : Operand) (t : TypeId)
    (ho : o.op = .call { callee := .builtin .append, args := #[s, x], argTypes := #[t, t] })
    (base : Nat) (e : TypeId) (i : TypeInfo) (z : Value) (size bytes : Nat) (ht : P.underlying t = some (.slice e)) (hi : P.info? e = some i) (hz : i.zero = some z)
    (hsize : i.size = size) (hby : i.bytes = bytes) (hzs : z.cells.size = size) (hsz : 0 < size)
    (v : Value) (n : Nat) (xs : List Value) (hs : a.eval s = v) (hown : w.ownsRow base e size v n xs) (xv : Value) (m : Nat) (news : List Value) (hx : a.eval x = xv) (hrow : Row size w xv m news) (h1 : ∀ u ∈ news, u.oneCell' = true)
    (hbytes : (n + m) * bytes ≤ 140737488355328) (h63 : n + m ≤ maxLen) (hbase : base ≤ w.heap.size)
    (h : ∀ v' w', w'.ownsRow base e size v' (n + m) (xs ++ news) → w.grownBy w' v.ownBlock → wpList P ops Q rest (a.put o.dst v') w') : wpList P ops Q (o :: rest) a w := by
  refine wpList_step fun K hK => ?_
  rw [if_pos hw]
  obtain ⟨v', w', hrun, h2, h3⟩ := run_append_row (P := P) (w := w) base t o.type e i z size bytes ht hi hz hsize hby hzs hsz v n xs hown xv m news hrow h1 hbytes h63 hbase
  unfold Oper.wp
  simp [execOp, ho, resolve, invoke, builtin, hs, hx, hrun, Result.andThen]
  exact hK _ _ (h v' w' h2 h3)

set_option maxHeartbeats 8000000 in
theorem NamesJoins_walk (s t : ByteArray) (hs : s.size ≤ 140737488351232) (ht : t.size ≤ 140737488351232) (w : World) :
    Calls Tryd.prog 6 #[.string s, .string t] w fun e w' => e = .returned (.bool true) ∧ Below w.heap.size w w' := by
  obtain ⟨l, rfl, hl⟩ := text_of s
  obtain ⟨m, rfl, hm⟩ := text_of t
  rw [← hl] at hs
  rw [← hm] at ht
  have AL := hid alive_any
  by_cases hb : 1000 < l.length
  · have hbb : (1000 : Int) < ((text l).size : Int) := by omega
    clear hl hm
    go_enter Tryd.func6, Tryd.ntmps6
    go_wp2_with (go_at_call 9; refine (AL.out _).mono ?_; rintro e w' ⟨rfl, hb⟩)
    go_ret
    exact ⟨rfl, hb⟩
  · have hbb : ¬ (1000 : Int) < ((text l).size : Int) := by omega
    by_cases hc : 1000 < m.length
    · have hcc : (1000 : Int) < ((text m).size : Int) := by omega
      clear hl hm
      go_enter Tryd.func6, Tryd.ntmps6
      go_wp2_with (go_at_call 9; refine (AL.out _).mono ?_; rintro e w' ⟨rfl, hb⟩)
      go_ret
      exact ⟨rfl, hb⟩
    · have hcc : ¬ (1000 : Int) < ((text m).size : Int) := by omega
      have e1 : text l ++ (⟨#[32]⟩ : ByteArray) = text (l ++ [32]) := add_byte l 32
      have e2 : text (l ++ [32]) ++ text m = text (l ++ 32 :: m) := by rw [text_append]; simp
      have z1 : (text l).size + (⟨#[32]⟩ : ByteArray).size ≤ 9223372036854775807 := by rw [text_size, size_one]; omega
      have z2 : (text (l ++ [32])).size + (text m).size ≤ 9223372036854775807 := by rw [text_size, text_size]; simp; omega
      have C1 := hid (fun w => Words_any l (by omega) w)
      have C2 := hid (fun w => Words_any m (by omega) w)
      have C3 := hid (fun w => Words_any (l ++ 32 :: m) (by simp; omega) w)
      clear hl hm
      cases h1 : wordsO l with
      | none =>
        have h3 := words_left (m := m) h1
        rw [h1] at C1
        rw [h3] at C3
        clear h1 h3 hs ht
        generalize hxx : l ++ 32 :: m = x at *
        generalize hzz : l ++ [32] = z at *
        clear hxx hzz
        go_enter Tryd.func6, Tryd.ntmps6
        go_wp2_with fail
        refine (C1.out _).mono ?_
        rintro e w1 ⟨v1, rfl, hv1, hb1⟩
        go_wp2_with fail
        refine (C2.out _).mono ?_
        rintro e w2 ⟨v2, rfl, hv2, hb2⟩
        go_wp2_with fail
        refine (C3.out _).mono ?_
        rintro e w3 ⟨v3, rfl, hv3, hb3⟩
        go_wp2_with fail
        refine (AL.out _).mono ?_
        rintro e w4 ⟨rfl, hb4⟩
        go_wp2
        go_ret
        exact ⟨rfl, bt (bt (bt hb1 hb2) hb3) hb4⟩
      | some a =>
        rw [h1] at C1
        cases h2 : wordsO m with
        | none =>
          have h3 := words_right (l := l) h2
          rw [h2] at C2
          rw [h3] at C3
          clear h1 h2 h3 hs ht
          generalize hxx : l ++ 32 :: m = x at *
          generalize hzz : l ++ [32] = z at *
          clear hxx hzz
          go_enter Tryd.func6, Tryd.ntmps6
          go_wp2_with fail
          refine (C1.out _).mono ?_
          rintro e w1 ⟨v1, rfl, hv1, hb1⟩
          go_wp2_with fail
          refine (C2.out _).mono ?_
          rintro e w2 ⟨v2, rfl, hv2, hb2⟩
          go_wp2_with fail
          refine (C3.out _).mono ?_
          rintro e w3 ⟨v3, rfl, hv3, hb3⟩
          go_wp2_with fail
          refine (AL.out _).mono ?_
          rintro e w4 ⟨rfl, hb4⟩
          go_wp2
          go_ret
          exact ⟨rfl, bt (bt (bt hb1 hb2) hb3) hb4⟩
        | some b =>
          rw [h2] at C2
          have h3 : wordsO (l ++ 32 :: m) = some (a ++ b) := by rw [words_between, h1, h2]
          rw [h3] at C3
          obtain ⟨hj, hal, hap⟩ := words_pieces h1
          obtain ⟨_, hbl, _⟩ := words_pieces h2
          have r1 := fun w => Right_any (l ++ 32 :: 32 :: m) (by simp; omega) w
          have r2 := fun w => Right_any (l ++ [32]) (by simp; omega) w
          have r3 := fun w => Right_any (32 :: m) (by simp; omega) w
          have n3 : wordsO (32 :: m) = none := words_left (l := []) words_nil
          rw [show rightB (l ++ 32 :: 32 :: m) = false from by unfold rightB; rw [words_right n3]; rfl] at r1
          rw [show rightB (l ++ [32]) = false from by unfold rightB; rw [words_right words_nil]; rfl] at r2
          rw [show rightB (32 :: m) = false from by unfold rightB; rw [n3]; rfl] at r3
          have e3 : text l ++ (⟨#[32, 32]⟩ : ByteArray) = text (l ++ [32, 32]) := by rw [show (⟨#[32, 32]⟩ : ByteArray) = text [32, 32] from rfl, text_append]
          have e4 : text (l ++ [32, 32]) ++ text m = text (l ++ 32 :: 32 :: m) := by rw [text_append]; simp
          have e5 : (⟨#[32]⟩ : ByteArray) ++ text m = text (32 :: m) := by rw [byte_text, text_append]; rfl
          have z3 : (text l).size + (⟨#[32, 32]⟩ : ByteArray).size ≤ 9223372036854775807 := by rw [text_size, size_two]; omega
          have z4 : (text (l ++ [32, 32])).size + (text m).size ≤ 9223372036854775807 := by rw [text_size, text_size]; simp; omega
          have z5 : (⟨#[32]⟩ : ByteArray).size + (text m).size ≤ 9223372036854775807 := by rw [text_size, size_one]; omega
          have R1 := hid r1
          have R2 := hid r2
          have R3 := hid r3
          have HJ := hid hj
          have HAP := hid hap
          have hll : l.length ≤ 1000 := by omega
          have hmm : m.length ≤ 1000 := by omega
          clear r1 r2 r3 h1 h2 h3 n3 hj hap hs ht hb hc
          generalize hxx : l ++ 32 :: m = x at *
          generalize hzz : l ++ [32] = z at *
          generalize hyy : l ++ 32 :: 32 :: m = y at *
          generalize hpp : l ++ [32, 32] = p at *
          generalize huu : 32 :: m = u at *
          clear hxx hzz hyy hpp huu
          obtain ⟨i0, hi, hz0, hz1, hz2⟩ := info_parts infoS
          go_enter Tryd.func6, Tryd.ntmps6
          go_wp2_with fail
          refine (C1.out _).mono ?_
          rintro e w1 ⟨v1, rfl, hv1, hb1⟩
          go_wp2_with fail
          refine (C2.out _).mono ?_
          rintro e w2 ⟨v2, rfl, hv2, hb2⟩
          have hv1' : Strs w2 v1 a := hv1.below hb2 (Nat.le_refl _)
          have hlen := fun W => hv1'.len (P := Tryd.prog) 29 3 9 underS W
          have HV1 := hid hv1'
          have HV2 := hid (show Strs w2 v2 b from hv2)
          have HB2 := hid (bt hb1 hb2)
          clear hv1 hv2 hv1' hb1 hb2
          go_wp2_with fail
          go_loop [11, 56] (fun tx i => ∃ k : Nat, tx = .string (text (joined (a.take k))) ∧ i = .int .i64 k ∧ k ≤ a.length) (fun _ i => a.length - (intOf i).toNat)
          case atStart => exact ⟨0, rfl, rfl, by omega⟩
          case round =>
            obtain ⟨k, rfl, rfl, hk⟩ := hrel
            by_cases hlt : k < a.length
            · obtain ⟨bb, o, ha, hcl⟩ := HV1.out.at k hlt 29 9 underS sizeS
              have hq : a[k]? = some a[k] := List.getElem?_eq_getElem _
              have hap := HAP.out a[k] (List.getElem_mem hlt)
              generalize a[k] = q at *
              have hnx := joined_next a k q hq
              have hT := joined_len a k
              rw [HJ.out] at hT
              by_cases hz : k = 0
              · rw [if_pos hz] at hnx
                subst hz
                have hT0 : joined (a.take 0) = [] := rfl
                have f1 : text [] ++ text q = text q := by rw [text_append]; rfl
                have y1 : (text []).size + (text q).size ≤ 9223372036854775807 := by rw [text_size, text_size]; simp; omega
                have HNX := hid hnx
                have ha0 : ∀ q W, (Instr.indexAt 29 v1 (.int q 0)).run Tryd.prog W = .ok (.pointer (some ⟨bb, o, none⟩)) W := ha
                clear ha
                rw [hT0]
                clear hnx hT hT0 hq hap
                go_wp2_with fail
                go_round
                case rel => exact ⟨1, by rw [HNX.out], by go_num, by omega⟩
                case measure => simp [intOf]; omega
              · rw [if_neg hz] at hnx
                have hz2 : (0 : Int) < (k : Int) := by omega
                obtain ⟨T, hTT⟩ : ∃ T, joined (a.take k) = T := ⟨_, rfl⟩
                rw [hTT] at hnx hT ⊢
                have f1 : text T ++ (⟨#[32]⟩ : ByteArray) = text (T ++ [32]) := add_byte T 32
                have f2 : text (T ++ [32]) ++ text q = text (T ++ 32 :: q) := by rw [text_append]; simp
                have y1 : (text T).size + (⟨#[32]⟩ : ByteArray).size ≤ 9223372036854775807 := by rw [text_size, size_one]; omega
                have y2 : (text (T ++ [32])).size + (text q).size ≤ 9223372036854775807 := by rw [text_size, text_size]; simp; omega
                have HNX := hid hnx
                clear hnx hT hTT hq hap
                generalize h9 : T ++ 32 :: q = T3 at *
                generalize h8 : T ++ [32] = T2 at *
                clear h9 h8
                go_wp2_with fail
                go_round
                case rel => exact ⟨k + 1, by rw [HNX.out], by go_num, by omega⟩
                case measure => simp [intOf]; omega
            · have hka : k = a.length := by omega
              subst hka
              rw [List.take_length, HJ.out]
              go_wp2_with fail
              refine (C3.out _).mono ?_
              rintro e w3 ⟨v3, rfl, hv3, hb3⟩
              go_wp2_with fail
              refine (AL.out _).mono ?_
              rintro e w4 ⟨rfl, hb4⟩
              have hb24 := bt hb3 hb4
              have hv3' : Strs w4 v3 (a ++ b) := hv3.below hb4 (Nat.le_refl _)
              have HV14 := hid (HV1.out.below hb24 (Nat.le_refl _))
              have HV24 := hid (HV2.out.below hb24 (Nat.le_refl _))
              have HV3 := hid hv3'
              have HB24 := hid hb24
              clear hv3 hv3' hb24 hb3 hb4
              go_wp2_with (at_builtin; refine wpList_append_if (by first | rfl | simp [Region.wanted, yielded]) _ _ 29 rfl w4.heap.size 9 i0 (.string ByteArray.empty) 1 16 underS hi hz0 hz1 hz2 rfl (by decide) _ _ _ rfl (owns_empty w4 9 1 w4.heap.size (Nat.le_refl _)) _ _ _ rfl (Row.below HV14.out (ba (b0 w4) _) (Nat.le_refl _)) (strsOf_one a) ?d1 ?d2 ?d3 ?_)
              case d1 => omega
              case d2 => unfold maxLen; omega
              case d3 => simp
              intro v5 w5 o5 g5
              have hb45 := grown_below (ba (b0 w4) (.cells #[] 9)) (owns_empty w4 9 1 w4.heap.size (Nat.le_refl _)) (Nat.le_refl _) g5
              clear g5
              go_wp2_with (at_builtin; refine wpList_append_if (by first | rfl | simp [Region.wanted, yielded]) _ _ 29 rfl w4.heap.size 9 i0 (.string ByteArray.empty) 1 16 underS hi hz0 hz1 hz2 rfl (by decide) _ _ _ rfl o5 _ _ _ rfl (Row.below HV24.out hb45 (Nat.le_refl _)) (strsOf_one b) ?d1 ?d2 ?d3 ?_)
              case d1 => omega
              case d2 => unfold maxLen; omega
              case d3 => exact hb45.size
              intro v6 w6 o6 g6
              have hb46 := grown_below hb45 o5 (Nat.le_refl _) g6
              have hab : (a ++ b).length = 0 + a.length + b.length := by simp
              have hv6 : Strs w6 v6 (a ++ b) := Strs.ofOwns (l := a ++ b) (by rw [hab, strsOf_append]; simpa using o6) (by omega)
              have hsm := same_any v3 v6 (a ++ b) (a ++ b) w6 (HV3.out.below hb46 (Nat.le_refl _)) hv6
              rw [decide_eq_true rfl] at hsm
              have SM := hid hsm
              have HBB := hid ((bt HB2.out HB24.out).trans (hb46.mono (bt HB2.out HB24.out).size))
              clear hsm hv6 hab o6 o5 g6 hb45 hb46
              go_wp2_with (go_at_call 16; refine SM.out.mono ?_; rintro e w7 ⟨rfl, hb7⟩)
              refine (R1.out _).mono ?_
              rintro e w8 ⟨rfl, hb8⟩
              go_wp2_with fail
              refine (R2.out _).mono ?_
              rintro e w9 ⟨rfl, hb9⟩
              go_wp2_with fail
              refine (R3.out _).mono ?_
              rintro e w10 ⟨rfl, hb10⟩
              go_wp2
              go_ret
              exact ⟨rfl, bt (bt (bt (bt HBB.out hb7) hb8) hb9) hb10⟩
end Go.Proofs.YtgnbdmomndnjnaaDoor.Names
