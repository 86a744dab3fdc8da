/- Layer 9: what the statements share: great, alive; contracts of the document's own Has and Longest. -/
import Derived.Test.YthggoohchjifnaaDoorScF
set_option linter.unusedVariables false
set_option linter.unusedSimpArgs false
namespace Go.Proofs.YthggoohchjifnaaDoor.Sc
open Go Go.Proofs.YthggoohchjifnaaDoor Go.Proofs.YthggoohchjifnaaDoor.Utf Go.Proofs.YthggoohchjifnaaDoor.Names Go.RowKit
set_option maxRecDepth 100000

/-- How great names are. -/
def eights (l : List (List UInt8)) : Nat := (l.map fun s => s.length / 8).sum
def massG (rows : List (List (List UInt8))) : Nat := (rows.map fun l => l.length + eights l).sum
theorem eights_snoc (l : List (List UInt8)) (x : List UInt8) : eights (l ++ [x]) = eights l + x.length / 8 := by simp [eights]
theorem massG_snoc (r : List (List (List UInt8))) (l : List (List UInt8)) : massG (r ++ [l]) = massG r + (l.length + eights l) := by simp [massG]
theorem eights_take (l : List (List UInt8)) (k : Nat) : eights (l.take k) ≤ eights l := by
  have : eights l = eights (l.take k) + eights (l.drop k) := by
    have e := List.take_append_drop k l
    have : eights (l.take k ++ l.drop k) = eights (l.take k) + eights (l.drop k) := by simp only [eights, List.map_append, List.sum_append]
    rwa [e] at this
  omega
theorem massG_take (r : List (List (List UInt8))) (k : Nat) : massG (r.take k) ≤ massG r := by
  have : massG r = massG (r.take k) + massG (r.drop k) := by
    have e := List.take_append_drop k r
    have : massG (r.take k ++ r.drop k) = massG (r.take k) + massG (r.drop k) := by simp only [massG, List.map_append, List.sum_append]
    rwa [e] at this
  omega

set_option maxHeartbeats 2000000 in
theorem Great_any (v : Value) (vs : List Value) (rows : List (List (List UInt8))) (w : World) (hv : Row 1 w v vs.length vs) (hl : rows.length = vs.length) (hr : ∀ i (h : i < vs.length), Strs w vs[i] (rows.getD i [])) (hb : massG rows ≤ 1000000000) :
    Calls Tryd.prog 11 #[v] w fun e w' => e = .returned (.bool (decide (400 < massG rows))) ∧ w' = w := by
  have hle := hv.le
  have hlen := fun W => Row.len (P := Tryd.prog) hv 47 3 22 Tryd.underlying47 W
  have V := hid hv
  have R := hid hr
  have B := hid hb
  obtain ⟨m, hm⟩ : ∃ m, decide (400 < massG rows) = m := ⟨_, rfl⟩
  rw [hm]
  have HM := hid hm
  clear hv hr hb hm
  go_enter Tryd.func11, Tryd.ntmps11
  go_wp2
  go_loopg [3, 10] vs.length (fun kx s3 s10 wr => ∃ i a : Nat, s3 = .int .i64 a ∧ s10 = .int .i64 i ∧ i ≤ vs.length ∧ vs.length - i ≤ kx ∧ w = wr ∧ Hid (a = massG (rows.take i)))
  case atStart => exact ⟨0, 0, rfl, rfl, Nat.zero_le _, by omega, rfl, hid (by simp [massG])⟩
  case round =>
    obtain ⟨i, a, rfl, rfl, hi, hg, rfl, I⟩ := hrel
    have ha : a ≤ 1000000000 := by rw [I.out]; exact Nat.le_trans (massG_take rows i) B.out
    by_cases hil : i < vs.length
    · obtain ⟨b, o, hix, hcl⟩ := Row.at (P := Tryd.prog) V.out (by omega) i hil 47 22 Tryd.underlying47 Tryd.sizeOf22
      have hc := hcl 0 vs[i] (by omega) (by simp [hil])
      have hs := R.out i hil
      have hstep : massG (rows.take (i + 1)) = massG (rows.take i) + ((rows.getD i []).length + eights (rows.getD i [])) := by
        rw [List.take_succ_eq_append_getElem (by omega), massG_snoc]
        simp [show i < rows.length by omega]
      have hle2 : massG (rows.take (i + 1)) ≤ 1000000000 := Nat.le_trans (massG_take rows _) B.out
      generalize rows.getD i [] = l at *
      generalize vs[i] = x at *
      have hlen2 := fun W => hs.len (P := Tryd.prog) 22 3 9 Tryd.underlying22 W
      have HS := hid hs
      have HST := hid hstep
      have hal : a + (l.length + eights l) ≤ 1000000000 := by rw [I.out, ← hstep]; exact hle2
      have hc' : w.cell? ⟨b, o, none⟩ = some x := hc
      clear hs hstep hle2 hcl hc
      go_wp2
      go_loopg [3, 20] l.length (fun kx s3 s20 wr => ∃ j c : Nat, s3 = .int .i64 c ∧ s20 = .int .i64 j ∧ j ≤ l.length ∧ l.length - j ≤ kx ∧ w = wr ∧ Hid (c = a + l.length + eights (l.take j)))
      case atStart => exact ⟨0, a + l.length, by go_num, rfl, Nat.zero_le _, by omega, rfl, hid (by simp [eights])⟩
      case round =>
        obtain ⟨j, c, rfl, rfl, hj, hgj, rfl, J⟩ := hrel
        have hc1 : c ≤ 1000000000 := by rw [J.out]; have := eights_take l j; omega
        by_cases hjl : j < l.length
        · obtain ⟨b2, o2, hix2, hcl2⟩ := HS.out.at (P := Tryd.prog) j hjl 22 9 Tryd.underlying22 Tryd.sizeOf9
          have hst2 : eights (l.take (j + 1)) = eights (l.take j) + l[j].length / 8 := by rw [List.take_succ_eq_append_getElem hjl, eights_snoc]
          have hb2 : c + l[j].length / 8 ≤ 1000000000 := by rw [J.out]; have := eights_take l (j + 1); omega
          have hsz : (text l[j]).size = l[j].length := text_size _
          generalize text l[j] = ty at *
          generalize l[j].length = n at *
          have HST2 := hid hst2
          have hq : Int.tdiv (n : Int) 8 = ((n / 8 : Nat) : Int) := by rw [Int.tdiv_eq_ediv_of_nonneg (by omega)]; omega
          clear hst2
          go_wp2
          go_roundg (l.length - (j + 1))
          case measure => omega
          case rel =>
            refine ⟨j + 1, c + n / 8, ?_, by go_num, by omega, Nat.le_refl _, rfl, hid (by rw [J.out, HST2.out]; omega)⟩
            go_num
        · have e : j = l.length := by omega
          subst e
          go_wp2
          go_roundg (vs.length - (i + 1))
          case measure => omega
          case rel =>
            refine ⟨i + 1, c, rfl, by go_num, by omega, Nat.le_refl _, rfl, hid (by rw [J.out, HST.out, ← I.out, List.take_of_length_le (Nat.le_refl _)]; omega)⟩
    · have e : a = massG rows := by rw [I.out, List.take_of_length_le (by omega)]
      have hm2 := HM.out
      rw [← e] at hm2
      by_cases h4 : 400 < a
      · rw [decide_eq_true h4] at hm2
        subst hm2
        have h4i : (400 : Int) < (a : Int) := by omega
        clear I e h4
        go_wp2
        go_ret
        exact ⟨rfl, rfl⟩
      · rw [decide_eq_false h4] at hm2
        subst hm2
        have h4i : ¬ (400 : Int) < (a : Int) := by omega
        clear I e h4
        go_wp2
        go_ret
        exact ⟨rfl, rfl⟩

def sNet : List UInt8 := [110, 101, 116]
def sPrice : List UInt8 := [112, 114, 105, 99, 101]
def sBoth : List UInt8 := [110, 101, 116, 32, 112, 114, 105, 99, 101]
def three : List (List UInt8) := [sNet, sBoth, [97]]

set_option maxHeartbeats 4000000 in
theorem alive_any (w : World) : Calls Tryd.prog 10 #[] w fun e w' => e = .returned (.bool true) ∧ Below w.heap.size w w' := by
  have hall : three.all rightB = true := by decide +kernel
  have hput : put [] three = [[97], sNet, sBoth] := by decide +kernel
  have HA := hid hall
  have HP := hid hput
  clear hall hput
  go_enter Tryd.func10, Tryd.ntmps10
  go_wp2_with fail
  have h3 := Row.ofBuild (sz := 1) w #[.string (text sNet), .string (text sBoth), .string (text [97])] 9 3 rfl (by omega)
  refine (New_any _ three _ (show Strs _ _ three from h3) (by decide) (by decide)).mono ?_
  rintro e w1 ⟨po, er, rfl, hg, hb1⟩
  have HB1 := hid (((Below.refl _ w).alloc (Nat.le_refl _) (.cells #[.string (text sNet), .string (text sBoth), .string (text [97])] 9)).trans (hb1.mono (by simp)))
  clear hb1 h3
  rcases hg with ⟨_, _, h⟩ | ⟨_, _, _, h⟩ | ⟨rfl, ⟨b, rfl⟩, _, _, hs⟩
  · rw [HA.out] at h; cases h
  · rw [HP.out] at h; exact absurd h (by decide)
  rw [HP.out] at hs
  have HS := hid hs
  clear hs
  go_wp2_with fail
  have h3 := Row.ofBuild (sz := 1) w1 #[.string (text sNet), .string (text sPrice), .string (text [120])] 9 3 rfl (by omega)
  have hba : Below w1.heap.size w1 (w1.alloc (.cells #[.string (text sNet), .string (text sPrice), .string (text [120])] 9)) := (Below.refl _ w1).alloc (Nat.le_refl _) _
  refine (SLongest_any _ _ _ [sNet, sPrice, [120]] _ (HS.out.later hba) (show Strs _ _ [sNet, sPrice, [120]] from h3) (by decide)).mono ?_
  have hl1 : longN [[97], sNet, sBoth] [sNet, sPrice, [120]] [sNet, sPrice, [120]].length = 2 := by decide +kernel
  rw [hl1]
  rintro e w2 ⟨rfl, hb2⟩
  have HB2 := hid (HB1.out.trans ((hba.trans (hb2.mono hba.size)).mono HB1.out.size))
  have HS2 := hid ((HS.out.later hba).later hb2)
  clear hb2 h3 hba hl1
  go_wp2_with fail
  have h1 := Row.ofBuild (sz := 1) w2 #[.string (text sPrice)] 9 1 rfl (by omega)
  have hba : Below w2.heap.size w2 (w2.alloc (.cells #[.string (text sPrice)] 9)) := (Below.refl _ w2).alloc (Nat.le_refl _) _
  refine (SLongest_any _ _ _ [sPrice] _ (HS2.out.later hba) (show Strs _ _ [sPrice] from h1) (by decide)).mono ?_
  have hl1 : longN [[97], sNet, sBoth] [sPrice] [sPrice].length = 0 := by decide +kernel
  rw [hl1]
  rintro e w3 ⟨rfl, hb3⟩
  have HB3 := hid (HB2.out.trans ((hba.trans (hb3.mono hba.size)).mono HB2.out.size))
  have hsaid : ((text (said [sNet, sPrice])).toList == [110, 101, 116, 32, 112, 114, 105, 99, 101]) = true := by rw [tlist]; decide +kernel
  clear hb3 h1 hba hl1
  go_wp2
  go_ret
  exact ⟨rfl, HB3.out⟩

set_option maxHeartbeats 1000000 in
theorem RHas_any (v : Value) (l : List (List UInt8)) (x : List UInt8) (w : World) (hv : Strs w v l) :
    Calls Tryd.prog 21 #[v, .string (text x)] w fun e w' => e = .returned (.bool (decide (x ∈ l))) ∧ w' = w := by
  have hle := hv.le
  have hlen := fun W => hv.len (P := Tryd.prog) 22 3 9 Tryd.underlying22 W
  have V := hid hv
  obtain ⟨m, hm⟩ : ∃ m, decide (x ∈ l) = m := ⟨_, rfl⟩
  rw [hm]
  have HM := hid hm
  clear hv hm
  go_enter Tryd.func21, Tryd.ntmps21
  go_wp2
  go_loopg [5] l.length (fun kx s5 wr => ∃ i : Nat, s5 = .int .i64 i ∧ i ≤ l.length ∧ l.length - i ≤ kx ∧ w = wr ∧ Hid (x ∉ l.take i))
  case atStart => exact ⟨0, rfl, Nat.zero_le _, by omega, rfl, hid (by simp)⟩
  case round =>
    obtain ⟨i, rfl, hi, hg, rfl, I⟩ := hrel
    by_cases hil : i < l.length
    · obtain ⟨b, o, hix, hcl⟩ := V.out.at (P := Tryd.prog) i hil 22 9 Tryd.underlying22 Tryd.sizeOf9
      have hq := teq l[i] x
      by_cases he : l[i] = x
      · rw [decide_eq_true he] at hq
        have hmm : m = true := by rw [← HM.out]; exact decide_eq_true (he ▸ List.getElem_mem hil)
        subst hmm
        clear he
        generalize text l[i] = ty at *
        go_wp2
        go_ret
        exact ⟨rfl, rfl⟩
      · rw [decide_eq_false he] at hq
        have HE := hid he
        clear he
        generalize text l[i] = ty at *
        go_wp2
        go_roundg (l.length - (i + 1))
        case measure => omega
        case rel =>
          refine ⟨i + 1, by go_num, by omega, Nat.le_refl _, rfl, hid ?_⟩
          rw [List.take_succ_eq_append_getElem hil]
          intro h
          rcases List.mem_append.1 h with h | h
          · exact I.out h
          · simp at h; exact HE.out h.symm
    · have hmm : m = false := by
        rw [← HM.out]
        have := I.out
        rw [List.take_of_length_le (by omega)] at this
        exact decide_eq_false this
      subst hmm
      clear I
      go_wp2
      go_ret
      exact ⟨rfl, rfl⟩

theorem add_blank (l : List UInt8) : text l ++ (⟨#[32]⟩ : ByteArray) = text (l ++ [32]) := by
  have : (⟨#[32]⟩ : ByteArray) = text [32] := rfl
  rw [this, Names.text_append]

set_option maxHeartbeats 4000000 in
theorem RLongest_any (v u : Value) (l ws : List (List UInt8)) (w : World) (hv : Strs w v l) (hu : Strs w u ws) (hb : (said ws).length ≤ 1000000000) :
    Calls Tryd.prog 19 #[v, u] w fun e w' => e = .returned (.tuple #[.string (text (said (ws.take (longN l ws ws.length)))), .int .i64 (longN l ws ws.length)]) ∧ w' = w := by
  have hle := hu.le
  have hlen := fun W => hu.len (P := Tryd.prog) 22 3 9 Tryd.underlying22 W
  have HV := hid (fun x => RHas_any v l x w hv)
  have U := hid hu
  have HW := hid (fun i => Nat.le_trans (said_len ws i) hb)
  obtain ⟨M, hM⟩ : ∃ M, longN l ws ws.length = M := ⟨_, rfl⟩
  rw [hM]
  have HM := hid hM
  clear hv hu hb hM
  go_enter Tryd.func19, Tryd.ntmps19
  go_wp2
  go_loopg [6, 7, 8, 9] ws.length (fun kx s6 s7 s8 s9 wr => ∃ i m : Nat, s6 = .string (text (said (ws.take i))) ∧ s7 = .string (text (said (ws.take m))) ∧ s8 = .int .i64 m ∧ s9 = .int .i64 i ∧ i ≤ ws.length ∧ ws.length - i ≤ kx ∧ w = wr ∧ Hid (m = longN l ws i))
  case atStart => exact ⟨0, 0, rfl, rfl, rfl, rfl, Nat.zero_le _, by omega, rfl, hid rfl⟩
  case round =>
    obtain ⟨i, m, rfl, rfl, rfl, rfl, hi, hg, rfl, I⟩ := hrel
    by_cases hil : i < ws.length
    · obtain ⟨b, o, hix, hcl⟩ := U.out.at (P := Tryd.prog) i hil 22 9 Tryd.underlying22 Tryd.sizeOf9
      have hst := said_take hil
      have hh := HV.out (said (ws.take (i + 1)))
      have hlb := HW.out (i + 1)
      have HI1 : Hid (longN l ws (i + 1) = if said (ws.take (i + 1)) ∈ l then i + 1 else longN l ws i) := hid rfl
      obtain ⟨S, hS⟩ : ∃ S, said (ws.take (i + 1)) = S := ⟨_, rfl⟩
      rw [hS] at hst hh hlb
      have HS := hid hS
      by_cases h0 : i = 0
      · have hp : ¬ (0 : Int) < (i : Int) := by omega
        rw [if_pos h0] at hst
        have hcat : text (said (ws.take i)) ++ text ws[i] = text S := by rw [Names.text_append, hst]
        have hsz : (text (said (ws.take i))).size + (text ws[i]).size ≤ 9223372036854775807 := by rw [text_size, text_size]; rw [hst, List.length_append] at hlb; omega
        clear hst hS h0
        generalize text (said (ws.take i)) = ti at *
        generalize text ws[i] = ty at *
        by_cases hm : S ∈ l
        · rw [decide_eq_true hm] at hh
          have HH := hid hh
          have HMM := hid hm
          clear hh hm
          go_wp2_with (go_at_call 21; refine HH.out.mono ?_; rintro e w1 ⟨rfl, rfl⟩)
          go_roundg (ws.length - (i + 1))
          case measure => omega
          case rel => exact ⟨i + 1, i + 1, by rw [HS.out], by rw [HS.out], by go_num, by go_num, by omega, Nat.le_refl _, rfl, hid (by rw [HI1.out, HS.out, if_pos HMM.out])⟩
        · rw [decide_eq_false hm] at hh
          have HH := hid hh
          have HMM := hid hm
          clear hh hm
          go_wp2_with (go_at_call 21; refine HH.out.mono ?_; rintro e w1 ⟨rfl, rfl⟩)
          go_roundg (ws.length - (i + 1))
          case measure => omega
          case rel => exact ⟨i + 1, m, by rw [HS.out], rfl, rfl, by go_num, by omega, Nat.le_refl _, rfl, hid (by rw [HI1.out, HS.out, if_neg HMM.out]; exact I.out)⟩
      · have hp : (0 : Int) < (i : Int) := by omega
        rw [if_neg h0] at hst
        have hcat0 := add_blank (said (ws.take i))
        have hsz0 : (text (said (ws.take i))).size + (⟨#[32]⟩ : ByteArray).size ≤ 9223372036854775807 := by
          have h1 : (⟨#[32]⟩ : ByteArray).size = 1 := rfl
          rw [text_size, h1]; rw [hst, List.length_append] at hlb; omega
        have hcat : text (said (ws.take i) ++ [32]) ++ text ws[i] = text S := by rw [Names.text_append, hst, List.append_assoc]; rfl
        have hsz : (text (said (ws.take i) ++ [32])).size + (text ws[i]).size ≤ 9223372036854775807 := by rw [text_size, text_size, List.length_append]; rw [hst, List.length_append, List.length_cons] at hlb; simp; omega
        clear hst hS h0
        generalize text (said (ws.take i) ++ [32]) = tb at *
        generalize text (said (ws.take i)) = ti at *
        generalize text ws[i] = ty at *
        by_cases hm : S ∈ l
        · rw [decide_eq_true hm] at hh
          have HH := hid hh
          have HMM := hid hm
          clear hh hm
          go_wp2_with (go_at_call 21; refine HH.out.mono ?_; rintro e w1 ⟨rfl, rfl⟩)
          go_roundg (ws.length - (i + 1))
          case measure => omega
          case rel => exact ⟨i + 1, i + 1, by rw [HS.out], by rw [HS.out], by go_num, by go_num, by omega, Nat.le_refl _, rfl, hid (by rw [HI1.out, HS.out, if_pos HMM.out])⟩
        · rw [decide_eq_false hm] at hh
          have HH := hid hh
          have HMM := hid hm
          clear hh hm
          go_wp2_with (go_at_call 21; refine HH.out.mono ?_; rintro e w1 ⟨rfl, rfl⟩)
          go_roundg (ws.length - (i + 1))
          case measure => omega
          case rel => exact ⟨i + 1, m, by rw [HS.out], rfl, rfl, by go_num, by omega, Nat.le_refl _, rfl, hid (by rw [HI1.out, HS.out, if_neg HMM.out]; exact I.out)⟩
    · have e : i = ws.length := by omega
      subst e
      have hm : m = M := I.out.trans HM.out
      subst hm
      clear I
      go_wp2
      go_ret2
      exact ⟨rfl, rfl⟩
end Go.Proofs.YthggoohchjifnaaDoor.Sc
