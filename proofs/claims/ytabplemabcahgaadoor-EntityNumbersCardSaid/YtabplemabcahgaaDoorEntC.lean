/- Layer 3: contracts of the document's own answers on references: number, reference. -/
import Derived.Test.YtabplemabcahgaaDoorEntA
set_option linter.unusedVariables false
set_option linter.unusedSimpArgs false
namespace Go.Proofs.YtabplemabcahgaaDoor.Ent
open Go Go.Proofs.YtabplemabcahgaaDoor Go.Proofs.YtabplemabcahgaaDoor.Utf Go.RowKit
set_option maxRecDepth 100000

/-- The first k bytes are digits. -/
def Digs (base : Nat) (l : List UInt8) (k : Nat) : Prop := k ≤ l.length ∧ (l.take k).all (isd base) = true
theorem Digs.start (base : Nat) (l : List UInt8) : Digs base l 0 := ⟨by omega, by simp⟩
theorem Digs.next {base : Nat} {l : List UInt8} {k : Nat} (h : Digs base l k) (hk : k < l.length) (hd : isd base l[k] = true) :
    Digs base l (k + 1) ∧ val base 0 (l.take (k + 1)) = base * val base 0 (l.take k) + dv l[k].toNat := by
  have e := List.take_succ_eq_append_getElem hk
  refine ⟨⟨hk, ?_⟩, ?_⟩
  · rw [e, List.all_append, h.2]; simp [hd]
  · rw [e, val_snoc]
theorem pow16 (base k : Nat) (hb : base ≤ 16) (hk : k ≤ 7) : base ^ k ≤ 268435456 := by
  have h1 : base ^ k ≤ 16 ^ k := Nat.pow_le_pow_left hb k
  have h2 : 16 ^ k ≤ 16 ^ 7 := Nat.pow_le_pow_right (by omega) hk
  have h3 : 16 ^ 7 = 268435456 := by decide
  omega
theorem Digs.lt {base : Nat} {l : List UInt8} {k : Nat} (h : Digs base l k) (h1 : 1 ≤ base) (hb : base ≤ 16) (hk : k ≤ 7) : val base 0 (l.take k) < 268435456 := by
  have h2 := val_lt h1 (l.take k) 0 1 (by omega) (fun b hb => List.all_eq_true.1 h.2 b hb)
  have h3 := pow16 base (l.take k).length hb (by rw [List.length_take]; omega)
  omega
theorem Digs.stop {base most : Nat} {l : List UInt8} {k : Nat} (h : Digs base l k) (hk : k ≤ most) (he : k = l.length ∨ ∃ b, l[k]? = some b ∧ isd base b = false) :
    numb base most l = if k ≠ 0 ∧ l[k]? = some 59 ∧ fine (val base 0 (l.take k)) = true then (val base 0 (l.take k), k + 1) else (0, 0) := by
  have hkl := h.1
  have hlen : (l.take k).length = k := by rw [List.length_take]; omega
  have e : l.takeWhile (isd base) = l.take k := by
    rcases he with he | ⟨b, hb, hd⟩
    · have := h.2
      rw [he, List.take_length] at this ⊢
      exact takeWhile_all _ _ this
    · obtain ⟨hlt, rfl⟩ := List.getElem?_eq_some_iff.1 hb
      conv => lhs; rw [← List.take_append_drop k l, List.drop_eq_getElem_cons hlt]
      exact takeWhile_stop _ _ _ _ h.2 hd
  unfold numb
  rw [e, hlen]
  have en : l.take k ≠ [] ↔ k ≠ 0 := by
    rw [← List.length_pos_iff, hlen]; omega
  by_cases c : k ≠ 0 ∧ l[k]? = some 59 ∧ fine (val base 0 (l.take k)) = true
  · rw [if_pos c, if_pos ⟨hk, en.2 c.1, c.2⟩]
  · rw [if_neg c, if_neg (fun x => c ⟨en.1 x.2.1, x.2.2⟩)]
theorem Digs.many {base most : Nat} {l : List UInt8} {k : Nat} (h : Digs base l k) (hk : k < l.length) (hd : isd base l[k] = true) (hm : most ≤ k) : numb base most l = (0, 0) := by
  obtain ⟨h1, _⟩ := h.next hk hd
  have : k + 1 ≤ (l.takeWhile (isd base)).length := by
    have hall := h1.2
    have e : l = l.take (k + 1) ++ l.drop (k + 1) := (List.take_append_drop _ _).symm
    rw [e, List.takeWhile_append_of_pos (by simpa [List.all_eq_true] using hall), List.length_append, List.length_take]
    omega
  unfold numb
  rw [if_neg (fun x => by have := x.1; omega)]

set_option maxHeartbeats 1000000 in
theorem number_any (l : List UInt8) (base most : Nat) (h1 : 2 ≤ base) (hb : base ≤ 16) (hm : most ≤ 7) (hl : l.length ≤ 1000000000) (w : World) :
    Calls Tryd.prog 35 #[.string (text l), .int .i64 base, .int .i64 most] w fun e w' => e = .returned (pairV (numb base most l)) ∧ w = w' := by
  have s1 : (text l).size = l.length := text_size l
  go_enter Tryd.func35, Tryd.ntmps35
  go_wp2_with fail
  go_loop [8, 9] (fun x i => ∃ k : Nat, k ≤ most ∧ i = .int .i64 k ∧ Digs base l k ∧ x = .int .i64 (val base 0 (l.take k))) (fun _ i => l.length - (intOf i).toNat)
  case atStart => exact ⟨0, by omega, rfl, Digs.start _ _, rfl⟩
  case round =>
    obtain ⟨k, hk, rfl, hD, rfl⟩ := hrel
    have hv := hD.lt (by omega) hb (by omega)
    have HD := hid hD
    clear hD
    generalize hx : val base 0 (l.take k) = x at *
    have HX := hid hx
    clear hx
    have fine_of := fun w => RFine_any (x : Int) w
    have HF := hid fine_of
    clear fine_of
    by_cases hlt : k < l.length
    · have hg := text_get l k hlt
      by_cases hd : isd base l[k] = true
      · by_cases hmk : k = most
        · have hmany := HD.out.many hlt hd (Nat.le_of_eq hmk.symm)
          rw [← hg] at hd
          have hdig := fun w => rdigit_yes _ base hb hd w
          have hdl := (isd_iff _ _).1 hd
          have hke : ((k : Int) == (most : Int)) = true := by rw [beq_iff_eq]; omega
          have HG := hid hdig
          have H3 := hid hmany
          clear hd hdig hg hmany hmk hdl
          go_wp2_with fail
          refine (HG.out _).mono ?_
          rintro e w1 ⟨rfl, rfl⟩
          go_wp2
          go_ret2
          exact ⟨by rw [H3.out]; rfl, rfl⟩
        · obtain ⟨hn1, hn2⟩ := HD.out.next hlt hd
          rw [← hg] at hd hn2
          have hdig := fun w => rdigit_yes _ base hb hd w
          have hdl := (isd_iff _ _).1 hd
          have hke : ((k : Int) == (most : Int)) = false := by rw [beq_eq_false_iff_ne]; omega
          have hkm : k + 1 ≤ most := by omega
          generalize hdv : dv (text l)[k].toNat = d at *
          have hp1 : 0 ≤ (base : Int) * (x : Int) := Int.mul_nonneg (by omega) (by omega)
          have hp2 : (base : Int) * (x : Int) ≤ 16 * 268435456 := Int.mul_le_mul (by omega) (by omega) (by omega) (by omega)
          rw [HX.out] at hn2
          have HG := hid hdig
          have H1 := hid hn1
          have H2 := hid hn2
          have H3 := hid hdv
          clear hd hdig hg hn1 hn2 hdv hmk
          go_wp2_with fail
          refine (HG.out _).mono ?_
          rintro e w1 ⟨rfl, rfl⟩
          go_wp2_with fail
          refine (HG.out _).mono ?_
          rintro e w1 ⟨rfl, rfl⟩
          go_wp2
          go_round
          case rel => exact ⟨k + 1, by omega, by go_num, H1.out, by rw [H2.out]; go_num⟩
          case measure => simp [intOf]; omega
      · have hd' : isd base l[k] = false := by simpa using hd
        have hstop := HD.out.stop hk (.inr ⟨l[k], by simp [hlt], hd'⟩)
        rw [HX.out, List.getElem?_eq_getElem hlt] at hstop
        rw [← hg] at hd' hstop
        have hdig := fun w => rdigit_no _ base hb hd' w
        have hkl : ((k : Int) == (l.length : Int)) = false := by rw [beq_eq_false_iff_ne]; omega
        have HG := hid hdig
        have HS := hid hstop
        clear hd hd' hg hdig hstop
        by_cases k0 : k = 0
        · have hk0 : ((k : Int) == 0) = true := by rw [beq_iff_eq]; omega
          have H0 := hid k0
          clear k0
          go_wp2_with fail
          refine (HG.out _).mono ?_
          rintro e w1 ⟨rfl, rfl⟩
          go_wp2
          go_ret2
          exact ⟨by rw [HS.out, if_neg (fun c => c.1 H0.out)]; rfl, rfl⟩
        · have hk0 : ((k : Int) == 0) = false := by rw [beq_eq_false_iff_ne]; omega
          have H0 := hid k0
          clear k0
          by_cases h59 : (text l)[k] = 59
          · have hne := hid (show ((text l)[k].toNat : Int) = 59 by rw [h59]; decide)
            have H59 := hid h59
            clear h59
            by_cases hf : fine (x : Int) = true
            · have HFF := hid hf
              go_wp2_with fail
              refine (HG.out _).mono ?_
              rintro e w1 ⟨rfl, rfl⟩
              have hne' := hne.out
              go_wp2_with fail
              refine (HF.out _).mono ?_
              rintro e w1 ⟨rfl, rfl⟩
              go_wp2
              go_ret2
              exact ⟨by rw [HS.out, if_pos ⟨H0.out, congrArg some H59.out, HFF.out⟩]; rfl, rfl⟩
            · have hf' : fine (x : Int) = false := by simpa using hf
              have HFF := hid hf
              clear hf
              go_wp2_with fail
              refine (HG.out _).mono ?_
              rintro e w1 ⟨rfl, rfl⟩
              have hne' := hne.out
              go_wp2_with fail
              refine (HF.out _).mono ?_
              rintro e w1 ⟨rfl, rfl⟩
              go_wp2
              go_ret2
              exact ⟨by rw [HS.out, if_neg (fun c => HFF.out c.2.2)]; rfl, rfl⟩
          · have hne : ¬ ((text l)[k].toNat : Int) = 59 := by
              intro e; exact h59 (UInt8.toNat_inj.1 (by show _ = 59; omega))
            have H59 := hid h59
            clear h59
            go_wp2_with fail
            refine (HG.out _).mono ?_
            rintro e w1 ⟨rfl, rfl⟩
            go_wp2
            go_ret2
            exact ⟨by rw [HS.out, if_neg (fun c => H59.out (Option.some.inj c.2.1))]; rfl, rfl⟩
    · have hkl' : k = l.length := by have := HD.out.1; omega
      have hstop := HD.out.stop hk (.inl hkl')
      rw [HX.out] at hstop
      have hn : l[k]? = none := by rw [hkl']; simp
      rw [hn] at hstop
      have hkl : ((k : Int) == (l.length : Int)) = true := by rw [beq_iff_eq]; omega
      have HS := hid hstop
      clear hstop hn hkl'
      by_cases k0 : k = 0
      · have hk0 : ((k : Int) == 0) = true := by rw [beq_iff_eq]; omega
        clear k0
        go_wp2
        go_ret2
        exact ⟨by rw [HS.out, if_neg (by simp)]; rfl, rfl⟩
      · have hk0 : ((k : Int) == 0) = false := by rw [beq_eq_false_iff_ne]; omega
        clear k0
        go_wp2
        go_ret2
        exact ⟨by rw [HS.out, if_neg (by simp)]; rfl, rfl⟩
end Go.Proofs.YtabplemabcahgaaDoor.Ent
