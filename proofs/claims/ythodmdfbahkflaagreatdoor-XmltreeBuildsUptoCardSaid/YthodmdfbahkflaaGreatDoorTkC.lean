/- Layer 4: contract of upTo. | Layer 4: contract of value. | Plain mathematics of layer 4: how the code reads a text, a declaration and raw text comes to what the chapter asks. -/
import Derived.Test.YthodmdfbahkflaaGreatDoorTkB
import Derived.Test.YthodmdfbahkflaaGreatDoorTkA
import Derived.Lib.ReplaceLaws
set_option linter.unusedVariables false
set_option linter.unusedSimpArgs false
namespace Go.Proofs.YthodmdfbahkflaaGreatDoor.Tok
open Go Go.Proofs.YthodmdfbahkflaaGreatDoor Go.Proofs.YthodmdfbahkflaaGreatDoor.Utf Go.Proofs.YthodmdfbahkflaaGreatDoor.Names Go.Proofs.YthodmdfbahkflaaGreatDoor.Ent Go.RowKit
set_option maxRecDepth 100000
section
variable {W w : World} {r k : Nat} {v t : Value} {l : List UInt8}
set_option maxHeartbeats 1000000

theorem upTo_any (h : Rd W r v l k t w) (p : List UInt8) (hp : p.length ≤ 1000) (a : ByteArray) (ha : a = text p) :
    Calls Tryz.prog 71 #[.pointer (some ⟨r, 0, none⟩), .string a] w fun e w' => e = .returned (.tuple #[.string (text (aheadOf p (l.drop k))), .bool (find p (l.drop k)).isSome]) ∧
      Rd W r v l (k + (match find p (l.drop k) with | none => (l.drop k).length | some i => i + p.length)) t w' ∧ Kept r w w' := by
  have hsz : a.size = p.length := by rw [ha]; exact text_size p
  have hlen := h.len
  have htop := h.top
  have c0 := h.c0
  have c1 := h.c1
  obtain ⟨v', _, h2, _, hv'⟩ := h.byt.sub (P := Tryz.prog) k l.length hlen (Nat.le_refl _) 24 5 underB size8
  have hsl := h2 rfl
  rw [List.take_of_length_le (by simp)] at hv'
  obtain ⟨u, w1, hcv, hu, hb1, _⟩ := conv_at (P := Tryz.prog) p (by omega) 9 24 5 under9 underB under8 w.drew
  have hu1 := hu w1 rfl
  have hd : Rd W r v l k t w1 := h.later ((b0 w).drew.trans hb1)
  have d0 := hd.c0
  have d1 := hd.c1
  have dl : (l.drop k).length = l.length - k := List.length_drop
  have C := hid (Cut_row (hv'.below hd.old (Nat.le_refl _)) hu1 hd.fitw.2 (by omega))
  have HB := hid ((b0 w).drew.trans hb1)
  have H1 := hid hd
  have HV := hid hv'
  rw [← ha] at hcv
  clear hu hu1 hv' h2 hb1 h hd ha
  generalize l.drop k = m at *
  have D0 := hid dl
  have D1 := hid hsz
  clear dl hsz
  cases hq : find p m with
  | none =>
    rw [hq] at C
    have ea := aheadOf_none hq
    rw [ea] at C ⊢
    clear hq ea
    have hkm : k + m.length ≤ l.length := by have := D0.out; omega
    dsimp only
    go_enter Tryz.func71, Tryz.ntmps71
    go_wp2_with fail
    go_region_with (
      go_at_call 80
      refine C.out.mono ?_
      rintro e w' ⟨⟨v1, v2, rfl, hv1⟩, hq⟩
      have hb2 := below_n hq
      have h2 := H1.out.later hb2
      have c1' := h2.c1
      have f1' := h2.f1
      have KB := hid (HB.out.trans (hb2.mono HB.out.size))
      have hv2 := hv1 W HV.out
      have hln := fun X => hv2.len (P := Tryz.prog) 24 3 5 underB X
      have h3 := h2.move (k + m.length) ((k : Int) + (m.length : Int)) (by omega) (by have := D0.out; omega)
      have hcvb := (hv2.below h3.old (Nat.le_refl _)).conv (P := Tryz.prog) 24 9 5 underB under8 under9
      have H3 := hid h3
      clear hb2 h2 hq hv1 hv2 h3)
    all_goals go_wp2
    all_goals go_ret2
    all_goals exact ⟨rfl, H3.out, (Kept.of KB.out).trans (Kept.put _ _ _ _)⟩
  | some i =>
    have hr := find_room hq
    have hkm : k + m.length = l.length := by have := D0.out; omega
    have hta : (m.take i).length = i := by rw [List.length_take]; omega
    rw [hq] at C
    have ea := aheadOf_some hq
    rw [ea] at C ⊢
    clear hq ea
    have hkmi : k + (i + p.length) ≤ l.length := by omega
    have hki : k + i ≤ l.length := by omega
    have D2 := hid hta
    clear hta hkm hr
    generalize m.take i = x at *
    dsimp only
    go_enter Tryz.func71, Tryz.ntmps71
    go_wp2_with fail
    go_region_with (
      go_at_call 80
      refine C.out.mono ?_
      rintro e w' ⟨⟨v1, v2, rfl, hv1⟩, hq⟩
      have hb2 := below_n hq
      have h2 := H1.out.later hb2
      have c1' := h2.c1
      have f1' := h2.f1
      have KB := hid (HB.out.trans (hb2.mono HB.out.size))
      have hv2 := hv1 W HV.out
      have hln := fun X => hv2.len (P := Tryz.prog) 24 3 5 underB X
      rw [D2.out] at hln
      have hsz := D1.out
      have h3 := (h2.move (k + i) ((k : Int) + (i : Int)) (by omega) (by omega))
      have c3 := h3.c1
      have f3 := h3.f1
      have h4 := h3.move (k + (i + p.length)) ((k : Int) + (i : Int) + (p.length : Int)) (by omega) (by omega)
      have hcvb := (hv2.below h4.old (Nat.le_refl _)).conv (P := Tryz.prog) 24 9 5 underB under8 under9
      have H4 := hid h4
      clear hb2 h2 hq hv1 hv2 h3 h4)
    all_goals go_wp2
    all_goals go_ret2
    all_goals exact ⟨rfl, H4.out, ((Kept.of KB.out).trans (Kept.put _ _ _ _)).trans (Kept.put _ _ _ _)⟩
end
end Go.Proofs.YthodmdfbahkflaaGreatDoor.Tok
namespace Go.Proofs.YthodmdfbahkflaaGreatDoor.Tok
open Go Go.Proofs.YthodmdfbahkflaaGreatDoor Go.Proofs.YthodmdfbahkflaaGreatDoor.Utf Go.Proofs.YthodmdfbahkflaaGreatDoor.Names Go.Proofs.YthodmdfbahkflaaGreatDoor.Ent Go.RowKit
set_option maxRecDepth 100000

theorem find_one (c : UInt8) : ∀ l : List UInt8, find [c] l = firstAt c l
  | [] => rfl
  | x :: r => by
    have ih := find_one c r
    unfold find firstAt
    rw [ih]
    by_cases h : x = c
    · subst h
      simp [pre, List.isPrefixOf]
    · have h' : ¬ c = x := fun e => h e.symm
      simp [pre, List.isPrefixOf, h, h']
theorem pre_one (c : UInt8) (m : List UInt8) : pre [c] m = true ↔ ∃ r, m = c :: r := by
  rw [Ent.pre_iff]; rfl
/-- What the value is made of: the text ahead of the quote. -/
theorem valueR_eq (q : UInt8) (hq : q = 34 ∨ q = 39) (r : List UInt8) :
    valueR (q :: r) = if (tell true (aheadOf [q] r)).2.2 ≠ 0 then .bad (1 + (tell true (aheadOf [q] r)).2.1) (tell true (aheadOf [q] r)).2.2 else
      match find [q] r with | none => .bad (1 + r.length) 10 | some i => .ok (tell true (aheadOf [q] r)).1 (i + 2) := by
  show (if q = 34 ∨ q = 39 then _ else _) = _
  rw [if_pos hq, ← find_one]
  unfold aheadOf
  cases find [q] r <;> rfl
theorem valueR_no {m : List UInt8} (h1 : pre [39] m = false) (h2 : pre [34] m = false) : valueR m = .bad 0 (short m) := by
  cases m with
  | nil => rfl
  | cons q r =>
    show (if q = 34 ∨ q = 39 then _ else _) = _
    unfold short
    rw [if_neg]
    · rfl
    rintro (e | e)
    · rw [e] at h2; simp [pre, List.isPrefixOf] at h2
    · rw [e] at h1; simp [pre, List.isPrefixOf] at h1

section
variable {W w : World} {r k : Nat} {v t : Value} {l : List UInt8}
set_option maxHeartbeats 2000000

theorem value_34 (h : Rd W r v l k t w) (m : List UInt8) (hm : l.drop k = 34 :: m) :
    Calls Tryz.prog 116 #[.pointer (some ⟨r, 0, none⟩)] w fun e w' => Got W r v l k t strV (strV []) (valueR (34 :: m)) e w' ∧ Kept r w w' := by
  have hlen := h.len
  have htop := h.top
  have hml : m.length + 1 + k = l.length := by have := congrArg List.length hm; rw [List.length_drop, List.length_cons] at this; omega
  have hdm : l.drop (k + 1) = m := by rw [← List.drop_drop, hm]; rfl
  have val := valueR_eq 34 (by decide) m
  have hap := aheadOf_le [34] m
  have htl := tell_le true (aheadOf [34] m)
  have v0 := fun X (hX : FitM X) => Value_any (aheadOf [34] m) (by omega) X hX.1.1 hX.1.2
  have hfr := fun i (e : find [34] m = some i) => find_room e
  have B0 := begins_any h [39] (by decide) ⟨#[39]⟩ rfl
  rw [hm, show pre [39] (34 :: m) = false from by simp [pre, List.isPrefixOf]] at B0
  have KK := hid (fun X (hX : Rd W r v l k t X) => by
    have := ask_any hX [34] (by decide) ⟨#[34]⟩ rfl
    rw [hm, show pre [34] (34 :: m) = true from by simp [pre, List.isPrefixOf], if_pos rfl, if_pos rfl] at this
    exact this : ∀ X, Rd W r v l k t X → Calls Tryz.prog 74 #[.pointer (some ⟨r, 0, none⟩), .string ⟨#[34]⟩] X fun e w' => e = .returned (.int .i64 0) ∧ Rd W r v l (k + 1) t w' ∧ Kept r X w')
  have UU := hid (fun X (hX : Rd W r v l (k + 1) t X) => by
    have := upTo_any hX [34] (by decide) ⟨#[34]⟩ rfl
    rw [hdm] at this
    exact this : ∀ X, Rd W r v l (k + 1) t X → Calls Tryz.prog 71 #[.pointer (some ⟨r, 0, none⟩), .string ⟨#[34]⟩] X fun e w' => e = .returned (.tuple #[.string (text (aheadOf [34] m)), .bool (find [34] m).isSome]) ∧
      Rd W r v l (k + 1 + (match find [34] m with | none => m.length | some i => i + 1)) t w' ∧ Kept r X w')
  have H := hid h
  have BB := hid B0
  unfold tellV at v0
  generalize aheadOf [34] m = s at *
  generalize tell true s = g at *
  obtain ⟨x, n, z⟩ := g
  dsimp only at v0 htl val
  have VV := hid v0
  have hkn : k + 1 + n ≤ l.length := by omega
  by_cases hz : z = 0
  · subst hz
    rw [if_neg (by simp)] at val
    cases hf : find [34] m with
    | none =>
      rw [hf] at val UU
      have E := hid val
      dsimp only at UU E
      simp only [Option.isSome_none] at UU
      clear h hm val v0 B0 hfr hf hdm hap htl
      go_enter Tryz.func116, Tryz.ntmps116
      go_wp2_with fail
      refine BB.out.mono ?_
      rintro e w1 ⟨rfl, hb1⟩
      have HB1 := hid hb1
      have H1 := hid (H.out.later hb1)
      clear hb1
      go_wp2_with fail
      refine (KK.out _ H1.out).mono ?_
      rintro e w2 ⟨rfl, h2, hk2⟩
      have c2 := h2.c1
      have H2 := hid h2
      have K2 := hid hk2
      clear h2 hk2
      go_wp2_with fail
      refine (UU.out _ H2.out).mono ?_
      rintro e w3 ⟨rfl, h3, hk3⟩
      have H3 := hid h3
      have K3 := hid hk3
      clear h3 hk3
      go_wp2_with fail
      refine (VV.out _ H3.out.fitw).mono ?_
      rintro e w4 ⟨rfl, hb4⟩
      have h4 := H3.out.later hb4
      have f4 := h4.f1
      have c4 := h4.c1
      have H4 := hid h4
      have K4 := hid ((((Kept.of HB1.out).trans K2.out).trans K3.out).trans (Kept.of hb4))
      clear h4 hb4
      go_wp2
      go_ret2
      exact ⟨Got.bad E.out rfl H4.out (by omega), K4.out⟩
    | some i =>
      rw [hf] at val UU
      have E := hid val
      dsimp only at UU E
      simp only [Option.isSome_some] at UU
      clear h hm val v0 B0 hfr hf hdm hap htl
      go_enter Tryz.func116, Tryz.ntmps116
      go_wp2_with fail
      refine BB.out.mono ?_
      rintro e w1 ⟨rfl, hb1⟩
      have HB1 := hid hb1
      have H1 := hid (H.out.later hb1)
      clear hb1
      go_wp2_with fail
      refine (KK.out _ H1.out).mono ?_
      rintro e w2 ⟨rfl, h2, hk2⟩
      have c2 := h2.c1
      have H2 := hid h2
      have K2 := hid hk2
      clear h2 hk2
      go_wp2_with fail
      refine (UU.out _ H2.out).mono ?_
      rintro e w3 ⟨rfl, h3, hk3⟩
      have H3 := hid h3
      have K3 := hid hk3
      clear h3 hk3
      go_wp2_with fail
      refine (VV.out _ H3.out.fitw).mono ?_
      rintro e w4 ⟨rfl, hb4⟩
      have h4 := H3.out.later hb4
      have f4 := h4.f1
      have c4 := h4.c1
      have H4 := hid h4
      have K4 := hid ((((Kept.of HB1.out).trans K2.out).trans K3.out).trans (Kept.of hb4))
      clear h4 hb4
      go_wp2
      go_ret2
      exact ⟨Got.ok (j := k + 1 + (i + 1)) E.out rfl H4.out (show k + 1 + (i + 1) = k + (i + 2) by omega), K4.out⟩
  · rw [if_pos hz] at val
    have E := hid val
    have hz2 : ((z : Int) == 0) = false := by rw [beq_eq_false_iff_ne]; omega
    clear h hm val v0 B0 hfr hdm hap htl
    go_enter Tryz.func116, Tryz.ntmps116
    go_wp2_with fail
    refine BB.out.mono ?_
    rintro e w1 ⟨rfl, hb1⟩
    have HB1 := hid hb1
    have H1 := hid (H.out.later hb1)
    clear hb1
    go_wp2_with fail
    refine (KK.out _ H1.out).mono ?_
    rintro e w2 ⟨rfl, h2, hk2⟩
    have c2 := h2.c1
    have H2 := hid h2
    have K2 := hid hk2
    clear h2 hk2
    go_wp2_with fail
    refine (UU.out _ H2.out).mono ?_
    rintro e w3 ⟨rfl, h3, hk3⟩
    have H3 := hid h3
    have K3 := hid hk3
    clear h3 hk3
    go_wp2_with fail
    refine (VV.out _ H3.out.fitw).mono ?_
    rintro e w4 ⟨rfl, hb4⟩
    have h4 := H3.out.later hb4
    have f4 := h4.f1
    have c4 := h4.c1
    have H4 := hid h4
    have K4 := hid ((((Kept.of HB1.out).trans K2.out).trans K3.out).trans (Kept.of hb4))
    clear h4 hb4
    go_wp2
    go_ret2
    exact ⟨Got.bad E.out rfl (H4.out.move (k + 1 + n) _ (by omega) hkn) (by omega), K4.out.trans (Kept.put _ _ _ _)⟩

theorem value_39 (h : Rd W r v l k t w) (m : List UInt8) (hm : l.drop k = 39 :: m) :
    Calls Tryz.prog 116 #[.pointer (some ⟨r, 0, none⟩)] w fun e w' => Got W r v l k t strV (strV []) (valueR (39 :: m)) e w' ∧ Kept r w w' := by
  have hlen := h.len
  have htop := h.top
  have hml : m.length + 1 + k = l.length := by have := congrArg List.length hm; rw [List.length_drop, List.length_cons] at this; omega
  have hdm : l.drop (k + 1) = m := by rw [← List.drop_drop, hm]; rfl
  have val := valueR_eq 39 (by decide) m
  have hap := aheadOf_le [39] m
  have htl := tell_le true (aheadOf [39] m)
  have v0 := fun X (hX : FitM X) => Value_any (aheadOf [39] m) (by omega) X hX.1.1 hX.1.2
  have hfr := fun i (e : find [39] m = some i) => find_room e
  have B0 := begins_any h [39] (by decide) ⟨#[39]⟩ rfl
  rw [hm, show pre [39] (39 :: m) = true from by simp [pre, List.isPrefixOf]] at B0
  have KK := hid (fun X (hX : Rd W r v l k t X) => by
    have := ask_any hX [39] (by decide) ⟨#[39]⟩ rfl
    rw [hm, show pre [39] (39 :: m) = true from by simp [pre, List.isPrefixOf], if_pos rfl, if_pos rfl] at this
    exact this : ∀ X, Rd W r v l k t X → Calls Tryz.prog 74 #[.pointer (some ⟨r, 0, none⟩), .string ⟨#[39]⟩] X fun e w' => e = .returned (.int .i64 0) ∧ Rd W r v l (k + 1) t w' ∧ Kept r X w')
  have UU := hid (fun X (hX : Rd W r v l (k + 1) t X) => by
    have := upTo_any hX [39] (by decide) ⟨#[39]⟩ rfl
    rw [hdm] at this
    exact this : ∀ X, Rd W r v l (k + 1) t X → Calls Tryz.prog 71 #[.pointer (some ⟨r, 0, none⟩), .string ⟨#[39]⟩] X fun e w' => e = .returned (.tuple #[.string (text (aheadOf [39] m)), .bool (find [39] m).isSome]) ∧
      Rd W r v l (k + 1 + (match find [39] m with | none => m.length | some i => i + 1)) t w' ∧ Kept r X w')
  have H := hid h
  have BB := hid B0
  unfold tellV at v0
  generalize aheadOf [39] m = s at *
  generalize tell true s = g at *
  obtain ⟨x, n, z⟩ := g
  dsimp only at v0 htl val
  have VV := hid v0
  have hkn : k + 1 + n ≤ l.length := by omega
  by_cases hz : z = 0
  · subst hz
    rw [if_neg (by simp)] at val
    cases hf : find [39] m with
    | none =>
      rw [hf] at val UU
      have E := hid val
      dsimp only at UU E
      simp only [Option.isSome_none] at UU
      clear h hm val v0 B0 hfr hf hdm hap htl
      go_enter Tryz.func116, Tryz.ntmps116
      go_wp2_with fail
      refine BB.out.mono ?_
      rintro e w1 ⟨rfl, hb1⟩
      have HB1 := hid hb1
      have H1 := hid (H.out.later hb1)
      clear hb1
      go_wp2_with fail
      refine (KK.out _ H1.out).mono ?_
      rintro e w2 ⟨rfl, h2, hk2⟩
      have c2 := h2.c1
      have H2 := hid h2
      have K2 := hid hk2
      clear h2 hk2
      go_wp2_with fail
      refine (UU.out _ H2.out).mono ?_
      rintro e w3 ⟨rfl, h3, hk3⟩
      have H3 := hid h3
      have K3 := hid hk3
      clear h3 hk3
      go_wp2_with fail
      refine (VV.out _ H3.out.fitw).mono ?_
      rintro e w4 ⟨rfl, hb4⟩
      have h4 := H3.out.later hb4
      have f4 := h4.f1
      have c4 := h4.c1
      have H4 := hid h4
      have K4 := hid ((((Kept.of HB1.out).trans K2.out).trans K3.out).trans (Kept.of hb4))
      clear h4 hb4
      go_wp2
      go_ret2
      exact ⟨Got.bad E.out rfl H4.out (by omega), K4.out⟩
    | some i =>
      rw [hf] at val UU
      have E := hid val
      dsimp only at UU E
      simp only [Option.isSome_some] at UU
      clear h hm val v0 B0 hfr hf hdm hap htl
      go_enter Tryz.func116, Tryz.ntmps116
      go_wp2_with fail
      refine BB.out.mono ?_
      rintro e w1 ⟨rfl, hb1⟩
      have HB1 := hid hb1
      have H1 := hid (H.out.later hb1)
      clear hb1
      go_wp2_with fail
      refine (KK.out _ H1.out).mono ?_
      rintro e w2 ⟨rfl, h2, hk2⟩
      have c2 := h2.c1
      have H2 := hid h2
      have K2 := hid hk2
      clear h2 hk2
      go_wp2_with fail
      refine (UU.out _ H2.out).mono ?_
      rintro e w3 ⟨rfl, h3, hk3⟩
      have H3 := hid h3
      have K3 := hid hk3
      clear h3 hk3
      go_wp2_with fail
      refine (VV.out _ H3.out.fitw).mono ?_
      rintro e w4 ⟨rfl, hb4⟩
      have h4 := H3.out.later hb4
      have f4 := h4.f1
      have c4 := h4.c1
      have H4 := hid h4
      have K4 := hid ((((Kept.of HB1.out).trans K2.out).trans K3.out).trans (Kept.of hb4))
      clear h4 hb4
      go_wp2
      go_ret2
      exact ⟨Got.ok (j := k + 1 + (i + 1)) E.out rfl H4.out (show k + 1 + (i + 1) = k + (i + 2) by omega), K4.out⟩
  · rw [if_pos hz] at val
    have E := hid val
    have hz2 : ((z : Int) == 0) = false := by rw [beq_eq_false_iff_ne]; omega
    clear h hm val v0 B0 hfr hdm hap htl
    go_enter Tryz.func116, Tryz.ntmps116
    go_wp2_with fail
    refine BB.out.mono ?_
    rintro e w1 ⟨rfl, hb1⟩
    have HB1 := hid hb1
    have H1 := hid (H.out.later hb1)
    clear hb1
    go_wp2_with fail
    refine (KK.out _ H1.out).mono ?_
    rintro e w2 ⟨rfl, h2, hk2⟩
    have c2 := h2.c1
    have H2 := hid h2
    have K2 := hid hk2
    clear h2 hk2
    go_wp2_with fail
    refine (UU.out _ H2.out).mono ?_
    rintro e w3 ⟨rfl, h3, hk3⟩
    have H3 := hid h3
    have K3 := hid hk3
    clear h3 hk3
    go_wp2_with fail
    refine (VV.out _ H3.out.fitw).mono ?_
    rintro e w4 ⟨rfl, hb4⟩
    have h4 := H3.out.later hb4
    have f4 := h4.f1
    have c4 := h4.c1
    have H4 := hid h4
    have K4 := hid ((((Kept.of HB1.out).trans K2.out).trans K3.out).trans (Kept.of hb4))
    clear h4 hb4
    go_wp2
    go_ret2
    exact ⟨Got.bad E.out rfl (H4.out.move (k + 1 + n) _ (by omega) hkn) (by omega), K4.out.trans (Kept.put _ _ _ _)⟩

theorem value_any (h : Rd W r v l k t w) :
    Calls Tryz.prog 116 #[.pointer (some ⟨r, 0, none⟩)] w fun e w' => Got W r v l k t strV (strV []) (valueR (l.drop k)) e w' ∧ Kept r w w' := by
  cases h1 : pre [39] (l.drop k) with
  | true =>
    obtain ⟨m, hm⟩ := (pre_one 39 _).1 h1
    rw [hm]
    exact value_39 h m hm
  | false =>
    cases h2 : pre [34] (l.drop k) with
    | true =>
      obtain ⟨m, hm⟩ := (pre_one 34 _).1 h2
      rw [hm]
      exact value_34 h m hm
    | false =>
      have E := hid (valueR_no h1 h2)
      have B0 := begins_any h [39] (by decide) ⟨#[39]⟩ rfl
      rw [h1] at B0
      have BB := hid B0
      have KK := hid (fun X (hX : Rd W r v l k t X) => by
        have := ask_any hX [34] (by decide) ⟨#[34]⟩ rfl
        rw [h2, if_neg (by simp), if_neg (by simp)] at this
        exact this : ∀ X, Rd W r v l k t X → Calls Tryz.prog 74 #[.pointer (some ⟨r, 0, none⟩), .string ⟨#[34]⟩] X fun e w' => e = .returned (.int .i64 (short (l.drop k))) ∧ Rd W r v l k t w' ∧ Kept r X w')
      have hz2 : ((short (l.drop k) : Int) == 0) = false := by rw [beq_eq_false_iff_ne]; unfold short; split <;> simp
      have H := hid h
      generalize short (l.drop k) = z at *
      clear h B0 h1 h2
      go_enter Tryz.func116, Tryz.ntmps116
      go_wp2_with fail
      refine BB.out.mono ?_
      rintro e w1 ⟨rfl, hb1⟩
      have HB1 := hid hb1
      have H1 := hid (H.out.later hb1)
      clear hb1
      go_wp2_with fail
      refine (KK.out _ H1.out).mono ?_
      rintro e w2 ⟨rfl, h2, hk2⟩
      have H2 := hid h2
      have K2 := hid hk2
      clear h2 hk2
      go_wp2
      go_ret2
      exact ⟨Got.bad E.out rfl H2.out rfl, (Kept.of HB1.out).trans K2.out⟩
end
end Go.Proofs.YthodmdfbahkflaaGreatDoor.Tok
namespace Go.Proofs.YthodmdfbahkflaaGreatDoor.Tok
open Go Go.Proofs.YthodmdfbahkflaaGreatDoor Go.Proofs.YthodmdfbahkflaaGreatDoor.Utf Go.Proofs.YthodmdfbahkflaaGreatDoor.Names Go.Proofs.YthodmdfbahkflaaGreatDoor.Ent
set_option maxRecDepth 100000

/-- A byte of one character behind changes no character. -/
theorem rune_below (b : UInt8) (hb : b.toNat < 128) (x m : List UInt8) (hx : x ≠ []) : rune (x ++ b :: m) = rune x := by
  have hl := List.length_pos_iff.2 hx
  by_cases h : (rune x).2 = 0
  · rw [rune_none h]
    apply rune_none
    apply Classical.byContradiction
    intro k
    have hk : (rune (x ++ b :: m)).2 ≤ x.length := by
      apply Classical.byContradiction
      intro c
      have := Utf.rune_low k (j := x.length) (by omega) (by rw [nth_mid]; exact hb)
      rw [this] at c
      exact c hl
    have := rune_own (x ++ b :: m) x _ rfl k hk (fun i hi => (nth_append_left x (b :: m) i (by omega)).symm)
    rw [this] at h
    exact k h
  · exact rune_append _ h

theorem referred_no {x : List UInt8} (h : 93 ∈ x) : referred x = none := by
  unfold referred
  have nd : ∀ base most (y : List UInt8), base ≤ 16 → 93 ∈ y → numd base most y = none := by
    intro base most y hb hy
    unfold numd
    rw [if_neg]
    rintro ⟨_, _, h3, _⟩
    have := List.all_eq_true.1 h3 93 hy
    rw [isd_iff] at this
    have e : dv (93 : UInt8).toNat = 99 := by decide
    omega
  split
  · rename_i hp
    obtain ⟨r, rfl⟩ := (Ent.pre_iff _ _).1 hp
    exact nd _ _ _ (by decide) (by simpa using h)
  · split
    · rename_i hp
      obtain ⟨r, rfl⟩ := (Ent.pre_iff _ _).1 hp
      exact nd _ _ _ (by decide) (by simpa using h)
    · unfold named
      have : nameds.find? (fun p => p.1 == x) = none := by
        rw [List.find?_eq_none]
        intro p hp e
        have e2 : p.1 = x := by simpa using e
        have : nameds.all (fun q => !q.1.contains 93) = true := by decide
        have := List.all_eq_true.1 this p hp
        rw [e2] at this
        simp at this
        exact this h
      rw [this]; rfl
theorem refer_below (y m : List UInt8) : refer (38 :: (y ++ 93 :: m)) = refer (38 :: y) := by
  by_cases h : 59 ∈ y
  · obtain ⟨a, r, rfl, ha⟩ := semi_split y h
    rw [List.append_assoc, List.cons_append, refer_semi a _ ha, refer_semi a _ ha]
  · rw [refer_none y h]
    by_cases h2 : 59 ∈ m
    · obtain ⟨a, r, rfl, ha⟩ := semi_split m h2
      rw [show y ++ 93 :: (a ++ 59 :: r) = (y ++ 93 :: a) ++ 59 :: r by simp, refer_semi _ _ (by simp; exact ⟨h, ha⟩), referred_no (by simp)]
    · exact refer_none _ (by simp; exact ⟨h, h2⟩)
theorem item_below (v : Bool) (x m : List UInt8) (hx : x ≠ []) : item v (x ++ 93 :: m) = item v x := by
  have hr := rune_below 93 (by decide) x m hx
  have hp : pre [13, 10] (x ++ 93 :: m) = pre [13, 10] x := by
    match x, hx with
    | [a], _ => simp [pre, List.isPrefixOf]
    | a :: b :: y, _ => simp [pre, List.isPrefixOf]
  unfold item
  rw [hr, hp]
  by_cases h : (rune x).2 = 0
  · rw [if_pos h, if_pos h]
  · rw [if_neg h, if_neg h]
    by_cases h38 : (rune x).1 = 38
    · have ht := rune_take x h
      rw [h38] at ht
      have he : enc ((38 : Nat) : Int) = [38] := by decide
      rw [he] at ht
      obtain ⟨y, rfl⟩ : ∃ y, x = 38 :: y := by
        cases x with
        | nil => exact absurd rfl hx
        | cons a y =>
          have h1 : 1 ≤ (rune (a :: y)).2 := by omega
          obtain ⟨j, hj⟩ : ∃ j, (rune (a :: y)).2 = j + 1 := ⟨_, (Nat.sub_add_cancel h1).symm⟩
          rw [hj, List.take_succ_cons] at ht
          exact ⟨y, by rw [(List.cons.inj ht).1]⟩
      rw [List.cons_append, refer_below]
    · rw [if_neg h38, if_neg h38]
theorem tell_below (v : Bool) (m : List UInt8) : ∀ (n : Nat) (x : List UInt8), x.length = n →
    ((tell v x).2.2 = 0 → tell v (x ++ 93 :: m) = Ent.fin (tell v x).1 x.length (tell v (93 :: m))) ∧ ((tell v x).2.2 ≠ 0 → (tell v (x ++ 93 :: m)).2 = (tell v x).2) := by
  intro n
  induction n using Nat.strongRecOn with
  | _ n ih =>
    intro x hn
    by_cases e : x = []
    · subst e
      refine ⟨fun _ => ?_, fun h => absurd rfl h⟩
      rw [tell_nil, List.nil_append]
      unfold Ent.fin
      have tn := tell_none (v := v) (l := 93 :: m)
      generalize tell v (93 :: m) = g at *
      obtain ⟨a, b, c⟩ := g
      dsimp only at tn ⊢
      by_cases z : c = 0
      · rw [if_pos z]; simp
      · rw [if_neg z, tn z]; simp
    · have hi := item_below v x m e
      by_cases z : (item v x).2.2 = 0
      · have hk := item_ok z
        have ih' := ih (x.drop (item v x).2.1).length (by simp; omega) _ rfl
        have e1 := tell_step (v := v) (l := x ++ 93 :: m) (by rw [hi]; exact z)
        rw [hi, List.drop_append_of_le_length hk.2.2] at e1
        have e2 := tell_step z
        constructor
        · intro h0
          rw [e2] at h0
          have h1 : (tell v (x.drop (item v x).2.1)).2.2 = 0 := h0
          rw [e1, ih'.1 h1, fin_fin, e2]
          have e3 : (Ent.fin (enc ((item v x).1 : Int)) (item v x).2.1 (tell v (x.drop (item v x).2.1))).1 = enc ((item v x).1 : Int) ++ (tell v (x.drop (item v x).2.1)).1 := by unfold Ent.fin; rw [if_pos h1]
          rw [e3, List.length_drop, show (item v x).2.1 + (x.length - (item v x).2.1) = x.length from by omega]
        · intro h0
          rw [e2] at h0
          have h1 : (tell v (x.drop (item v x).2.1)).2.2 ≠ 0 := h0
          rw [e1, e2]
          have := ih'.2 h1
          unfold Ent.fin
          rw [this]
      · have e1 := tell_bad (v := v) (l := x ++ 93 :: m) (by simp) (by rw [hi]; exact z)
        have e2 := tell_bad e z
        rw [e1, e2, hi]
        exact ⟨fun h => absurd h z, fun _ => rfl⟩
/-- What begins with a ] isn't wrong there. -/
theorem tell_ahead (m : List UInt8) : (tell false (93 :: m)).2.2 = 0 ∨ 1 ≤ (tell false (93 :: m)).2.1 := by
  have hr : rune (93 :: m) = (93, 1) := rune_byte 93 (by decide) (by decide) m
  have hi : item false (93 :: m) = (93, 1, 0) := by
    unfold item
    rw [hr, if_neg (by decide), if_neg (by decide), if_neg (by decide)]
    simp [itself, pre, List.isPrefixOf]
  have := tell_step (v := false) (l := 93 :: m) (by rw [hi])
  rw [this, hi]
  right
  unfold Ent.fin
  simp only
  omega

theorem firstAt_take {c : UInt8} {m : List UInt8} {i : Nat} (h : firstAt c m = some i) : ∃ r, m = m.take i ++ c :: r := by
  have h1 := (firstAt_at h).1
  have h2 := firstAt_lt h
  refine ⟨m.drop (i + 1), ?_⟩
  have h3 : m[i] = c := by rw [List.getElem?_eq_getElem h2] at h1; simpa using h1
  rw [← h3, List.getElem_cons_drop, List.take_append_drop]
theorem find_pre : ∀ {t l : List UInt8} {k : Nat}, find t l = some k → pre t (l.drop k) = true := by
  intro t l
  induction l with
  | nil =>
    intro k h
    unfold find at h
    split at h
    · rename_i e; subst e; cases h; rfl
    · cases h
  | cons c r ih =>
    intro k h
    unfold find at h
    split at h
    · rename_i e; cases h; exact e
    · cases hf : find t r with
      | none => rw [hf] at h; cases h
      | some i => rw [hf] at h; cases h; exact ih hf
theorem ahead_text (m : List UInt8) : aheadOf [60] m = m.take (textLen m) := by
  unfold aheadOf textLen
  rw [find_one]
  cases firstAt 60 m <;> simp
theorem textR_eq (m : List UInt8) : textR m =
    let x := aheadOf [60] m
    let g := tell false (aheadOf [93, 93, 62] x)
    if g.2.2 ≠ 0 then .bad g.2.1 g.2.2 else match find [93, 93, 62] x with
      | some j => .bad j 5
      | none => .ok (some ⟨3, 0, g.1, []⟩) x.length := by
  rw [ahead_text]
  obtain ⟨x, hx⟩ : ∃ x, m.take (textLen m) = x := ⟨_, rfl⟩
  have htl := textLen_le m
  have hxl : x.length = textLen m := by rw [← hx, List.length_take]; omega
  have hm : m = x ∨ ∃ r, m = x ++ 60 :: r := by
    cases hf : firstAt 60 m with
    | none =>
      left
      rw [← hx]; unfold textLen; rw [hf]; simp
    | some i =>
      right
      obtain ⟨r, hr⟩ := firstAt_take hf
      exact ⟨r, by rw [← hx]; unfold textLen; rw [hf]; exact hr⟩
  unfold textR
  rw [hx]
  simp only
  cases hf : find [93, 93, 62] x with
  | some j =>
    have hj := find_room hf
    have hm2 : find [93, 93, 62] m = some j := by
      rcases hm with e | ⟨r, e⟩
      · rw [e]; exact hf
      · rw [e]; exact find_lt _ _ _ (by simp) hf _
    rw [hm2, aheadOf_some hf]
    simp only [List.length_cons, List.length_nil] at hj
    obtain ⟨r, hr⟩ : ∃ r, x = x.take j ++ 93 :: r := by
      have hp : pre [93, 93, 62] (x.drop j) = true := by
        have := find_pre hf
        exact this
      obtain ⟨r, hr⟩ := (Ent.pre_iff _ _).1 hp
      exact ⟨93 :: 62 :: r, by conv => lhs; rw [← List.take_append_drop j x, hr]; simp⟩
    have hb := tell_below false r (x.take j).length (x.take j) rfl
    rw [← hr] at hb
    have hlt : (x.take j).length = j := by rw [List.length_take]; omega
    by_cases z : (tell false (x.take j)).2.2 = 0
    · have e1 := hb.1 z
      have h2 := tell_ahead r
      have cond : j < textLen m ∧ ((tell false x).2.2 = 0 ∨ j < (tell false x).2.1) := by
        refine ⟨by omega, ?_⟩
        rw [e1]
        unfold Ent.fin
        simp only
        rcases h2 with h2 | h2
        · exact .inl h2
        · exact .inr (by omega)
      have z2 : ¬ (tell false (x.take j)).2.2 ≠ 0 := fun h => h z
      dsimp only
      rw [if_pos cond, if_neg z2]
    · dsimp only
      rw [if_pos z]
      have e1 := hb.2 z
      have e2 : (tell false x).2.1 = (tell false (x.take j)).2.1 := by rw [e1]
      have e3 : (tell false x).2.2 = (tell false (x.take j)).2.2 := by rw [e1]
      have hle := tell_le false (x.take j)
      have cond : ¬ (j < textLen m ∧ ((tell false x).2.2 = 0 ∨ j < (tell false x).2.1)) := by
        rintro ⟨_, h | h⟩
        · rw [e3] at h; exact z h
        · omega
      have z3 : (tell false x).2.2 ≠ 0 := by rw [e3]; exact z
      rw [if_neg cond, if_pos z3, e2, e3]
  | none =>
    rw [aheadOf_none hf]
    have key : ∀ o : Res (Option Tok), (match find [93, 93, 62] m with
        | some k => if k < textLen m ∧ ((tell false x).2.2 = 0 ∨ k < (tell false x).2.1) then .bad k 5 else o
        | none => o) = o := by
      intro o
      rcases hm with e | ⟨r, e⟩
      · rw [e, hf]
      · cases hfm : find [93, 93, 62] m with
        | none => rfl
        | some k =>
          rw [e] at hfm
          have := find_text x r k hf hfm
          simp only
          rw [if_neg (by omega)]
    refine (key _).trans ?_
    rw [hxl]

/-- The declaration's end is not within its front. -/
theorem decl_end {m : List UInt8} (h : decl m = true) : find [63, 62] m = (find [63, 62] (m.drop 5)).map (· + 5) := by
  unfold decl at h
  simp only [Bool.and_eq_true] at h
  obtain ⟨h1, h2⟩ := h
  obtain ⟨r, rfl⟩ := (Ent.pre_iff _ _).1 h1
  simp only [List.cons_append, List.nil_append]
  have st : ∀ (c : UInt8) (l : List UInt8), pre [63, 62] (c :: l) = false → find [63, 62] (c :: l) = (find [63, 62] l).map (· + 1) := by
    intro c l hc
    conv => lhs; unfold find
    rw [if_neg (by rw [hc]; simp)]
  rw [st _ _ (by simp [pre, List.isPrefixOf]), st _ _ (by simp [pre, List.isPrefixOf]), st _ _ (by simp [pre, List.isPrefixOf]), st _ _ (by simp [pre, List.isPrefixOf]), st _ _ (by simp [pre, List.isPrefixOf])]
  simp only [List.drop_succ_cons, List.drop_zero, Option.map_map]
  cases find [63, 62] r <;> simp

section
variable {old new : List UInt8}
theorem rep_step (ho : old ≠ []) (hne : (old == new) = false) {s : List UInt8} {i : Nat} (h : Lib.index s old = i) : Lib.replaceAll s old new = s.take i ++ new ++ Lib.replaceAll (s.drop (i + old.length)) old new := by
  have hc := Lib.count_hit (s := s) (sub := old) (i := i) ho h
  unfold Lib.replaceAll Lib.replace Lib.replaceNum
  simp only [hne, Bool.false_eq_true, if_false]
  rw [if_pos (.inl (by decide)), if_pos (.inl (by decide)), hc, Nat.add_comm, Lib.replaceK_hit _ _ _ _ i h]
theorem rep_none (hne : (old == new) = false) {s : List UInt8} (h : Lib.index s old = -1) : Lib.replaceAll s old new = s := by
  unfold Lib.replaceAll Lib.replace Lib.replaceNum
  simp only [hne, Bool.false_eq_true, if_false]
  rw [if_pos (.inl (by decide)), Lib.count_miss h]
  rfl
theorem rep_hit (ho : old ≠ []) (hne : (old == new) = false) {c : UInt8} {r : List UInt8} (h : pre old (c :: r) = true) : Lib.replaceAll (c :: r) old new = new ++ Lib.replaceAll ((c :: r).drop old.length) old new := by
  have h' : old.isPrefixOf (c :: r) = true := h
  have hi : Lib.index (c :: r) old = ((0 : Nat) : Int) := by unfold Lib.index; rw [if_pos h']; rfl
  have := rep_step (new := new) ho hne hi
  rw [this]; simp
theorem rep_miss (ho : old ≠ []) (hne : (old == new) = false) {c : UInt8} {r : List UInt8} (h : pre old (c :: r) = false) : Lib.replaceAll (c :: r) old new = c :: Lib.replaceAll r old new := by
  have h' : ¬ old.isPrefixOf (c :: r) = true := by rw [← Bool.not_eq_true] at h; exact h
  have hi : Lib.index (c :: r) old = if Lib.index r old == -1 then -1 else Lib.index r old + 1 := by conv => lhs; unfold Lib.index; rw [if_neg h']
  rcases Lib.index_spec r old with ⟨h1, _⟩ | ⟨i, h1, _⟩
  · rw [rep_none hne (s := c :: r) (by rw [hi, h1]; rfl), rep_none hne h1]
  · have h2 : Lib.index (c :: r) old = ((i + 1 : Nat) : Int) := by
      rw [hi, h1]
      have : ((i : Int) == -1) = false := by rw [beq_eq_false_iff_ne]; omega
      simp [this]
    rw [rep_step ho hne h2, rep_step ho hne h1, show i + 1 + old.length = (i + old.length) + 1 from by omega, List.drop_succ_cons]
    simp
end
theorem rep_nil (old new : List UInt8) (ho : old ≠ []) (hne : (old == new) = false) : Lib.replaceAll [] old new = [] := rep_none hne (by unfold Lib.index; cases old with | nil => exact absurd rfl ho | cons a b => rfl)
theorem rep_one : ∀ s : List UInt8, Lib.replaceAll s [13] [10] = s.map fun c => if c = 13 then 10 else c
  | [] => rep_nil _ _ (by simp) (by decide)
  | c :: r => by
    have ih := rep_one r
    by_cases h : c = 13
    · subst h
      rw [rep_hit (by simp) (by decide) (by simp [pre, List.isPrefixOf])]
      simp [ih]
    · rw [rep_miss (by simp) (by decide) (by simp [pre, List.isPrefixOf]; exact fun e => h e.symm), ih]
      simp [h]
/-- Ends of lines, as the code reads them. -/
theorem lines_eq : ∀ s : List UInt8, Lib.replaceAll (Lib.replaceAll s [13, 10] [10]) [13] [10] = lines s
  | [] => by rw [rep_nil _ _ (by simp) (by decide), rep_one]; rfl
  | [c] => by
    rw [rep_miss (by simp) (by decide) (by simp [pre, List.isPrefixOf]), rep_nil _ _ (by simp) (by decide), rep_one]
    by_cases h : c = 13
    · subst h; rfl
    · unfold lines
      simp [h, lines]
  | c :: d :: r => by
    have ih := lines_eq (d :: r)
    have ih2 := lines_eq r
    by_cases h : c = 13
    · subst h
      by_cases h2 : d = 10
      · subst h2
        rw [rep_hit (by simp) (by decide) (by simp [pre, List.isPrefixOf]), rep_one]
        rw [rep_one] at ih2
        simp only [List.length_cons, List.length_nil, List.drop_succ_cons, List.drop_zero, List.map_append]
        rw [ih2]
        simp [lines]
      · rw [rep_miss (by simp) (by decide) (by simp [pre, List.isPrefixOf]; exact fun e => h2 e.symm), rep_one]
        rw [rep_one] at ih
        rw [List.map_cons, ih]
        have hl : lines (13 :: d :: r) = 10 :: lines (d :: r) := by
          rw [lines]
          intro x hx
          injection hx with e _
          exact absurd e h2
        rw [hl]; simp
    · rw [rep_miss (by simp) (by decide) (by simp [pre, List.isPrefixOf]; exact fun e => absurd e.symm h), rep_one]
      rw [rep_one] at ih
      rw [List.map_cons, ih]
      conv => rhs; unfold lines
      simp [h]
theorem lines_nil (s : List UInt8) : lines s = [] ↔ s = [] := by
  constructor
  · intro h
    cases s with
    | nil => rfl
    | cons c r =>
      unfold lines at h
      split at h
      · rename_i e; cases e
      · cases h
      · cases h
      · cases h
  · rintro rfl; rfl
end Go.Proofs.YthodmdfbahkflaaGreatDoor.Tok
