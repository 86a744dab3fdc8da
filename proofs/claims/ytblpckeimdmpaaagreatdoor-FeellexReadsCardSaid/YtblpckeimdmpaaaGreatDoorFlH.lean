/- Layer 8: contract of the document's own Lex. -/
import Derived.Test.YtblpckeimdmpaaaGreatDoorFlG
import Derived.Test.YtblpckeimdmpaaaGreatDoorFxY
import Derived.Test.YtblpckeimdmpaaaGreatDoorNamesQ
set_option linter.unusedVariables false
set_option linter.unusedSimpArgs false
namespace Go.Proofs.YtblpckeimdmpaaaGreatDoor.Fx
open Go Go.Proofs.YtblpckeimdmpaaaGreatDoor Go.Proofs.YtblpckeimdmpaaaGreatDoor.Utf Go.Proofs.YtblpckeimdmpaaaGreatDoor.Names Go.Proofs.YtblpckeimdmpaaaGreatDoor.Ent Go.Proofs.YtblpckeimdmpaaaGreatDoor.Fl Go.RowKit
set_option maxRecDepth 100000

/-- Where the document's walk through a text stands. -/
def RAt (l : List UInt8) (i : Nat) (ts : List Lx) : Prop := Edge l i ∧ lexp 0 l = joinS ts (lexp i (l.drop i)) ∧ ts.length ≤ i
section
variable {l : List UInt8} {i : Nat} {ts : List Lx}
theorem RAt.start (h : check l = l.length) : RAt l 0 [] := ⟨Edge.start h, (join_nil _).symm, by simp⟩
theorem RAt.blank (h : RAt l i ts) (hi : i < l.length) (hs : Utf.space ((l[i]).toNat : Int) = true) : RAt l (i + 1) ts := by
  obtain ⟨h1, h2, h3⟩ := h
  have hdr : l.drop i = l[i] :: l.drop (i + 1) := List.drop_eq_getElem_cons hi
  have hb := space_low hs
  have hlow : (l[i]).toNat < 128 := by rcases hb with e | e | e | e <;> rw [e] <;> decide
  have hE := h1.behind (n := 1) (by omega) (by
    have := check_ascii _ (l.drop i) rfl h1.2 0 (by rw [List.length_drop]; omega) (by rw [List.getElem_drop]; exact hlow)
    exact this)
  refine ⟨hE, ?_, by omega⟩
  rw [h2, hdr, lexp_space hs]
theorem RAt.token (h : RAt l i ts) (hi : i < l.length) (hs : Utf.space ((l[i]).toNat : Int) = false) (k n : Nat) (s : List UInt8) (ho : Fl.one (l.drop i) = .tok k s n) : RAt l (i + n) (ts ++ [⟨k, i, s⟩]) := by
  obtain ⟨h1, h2, h3⟩ := h
  have hdr : l.drop i = l[i] :: l.drop (i + 1) := List.drop_eq_getElem_cons hi
  have hpo := one_pos ho
  rw [List.length_drop] at hpo
  have hE := h1.behind (n := n) (by omega) (one_check h1.2 ho)
  refine ⟨hE, ?_, by rw [List.length_append]; simp; omega⟩
  rw [hdr] at ho
  rw [h2, hdr, lexp_tok hs ho, join_cons, ← hdr, List.drop_drop]
theorem RAt.bad (h : RAt l i ts) (hi : i < l.length) (hs : Utf.space ((l[i]).toNat : Int) = false) (p x : Nat) (ho : Fl.one (l.drop i) = .bad p x) : lexp 0 l = .error (i + p, x) := by
  obtain ⟨h1, h2, h3⟩ := h
  have hdr : l.drop i = l[i] :: l.drop (i + 1) := List.drop_eq_getElem_cons hi
  rw [hdr] at ho
  rw [h2, hdr, lexp_bad hs ho]
  rfl
theorem RAt.done (h : RAt l i ts) (hi : ¬ i < l.length) : lexp 0 l = .ok (ts ++ [⟨5, l.length, []⟩]) := by
  obtain ⟨h1, h2, h3⟩ := h
  have e1 : i = l.length := by have := h1.1; omega
  rw [e1, List.drop_length, lexp_nil] at h2
  rw [h2]; rfl
end
theorem OwnL.set {base : Nat} {W : World} {v : Value} {ts : List Lz} (h : OwnL base W v ts) (b o : Nat) (x : Value) (hne : v.ownBlock ≠ some b) : OwnL base (W.setCell ⟨b, o, none⟩ x) v ts :=
  World.ownsRow.kept h ⟨rfl, rfl, rfl, (KeepsWalks.setCell W _ x).size, fun k _ hk => Below.heap_setCell _ _ _ k (fun e => hk (by rw [e]))⟩ (.inr hne)
theorem OwnL.other {base b : Nat} {W : World} {v : Value} {ts : List Lz} (h : OwnL base W v ts) (hb : W.heap.size ≤ b) : v.ownBlock ≠ some b := fun e => by
  have := (World.ownsRow.lt h _ e).2
  omega
theorem one_word {m : List UInt8} (h : 0 < wordN m) : Fl.one m = .tok (if keyB (m.take (wordN m)) = true then 1 else 0) (m.take (wordN m)) (wordN m) := by unfold Fl.one; rw [if_pos h]
theorem one_num' {m : List UInt8} (hw : wordN m = 0) (hn : numB m = true) : Fl.one m = .tok 2 (m.take (numN m)) (numN m) := by unfold Fl.one; rw [if_neg (by omega), if_pos hn]
theorem one_quo' {m : List UInt8} (hw : wordN m = 0) (hn : numB m = false) (h34 : m.head? = some 34) : Fl.one m = Fl.quoted (m.drop 1) := by unfold Fl.one; rw [if_neg (by omega), if_neg (by rw [hn]; simp), if_pos h34]
theorem one_sgn' {m : List UInt8} (hw : wordN m = 0) (hn : numB m = false) (h34 : m.head? ≠ some 34) : Fl.one m = if signN m = 0 then .bad 0 11 else .tok 4 (m.take (signN m)) (signN m) := by unfold Fl.one; rw [if_neg (by omega), if_neg (by rw [hn]; simp), if_neg h34]

set_option maxHeartbeats 16000000 in
theorem RLex_any (l : List UInt8) (hl : l.length ≤ 100000) (w : World) :
    Calls Tryz.prog 8 #[.string (text l)] w fun e w' => GotL w.heap.size l e w' ∧ Below w.heap.size w w' := by
  obtain ⟨i0, hi, hz0, hz1, hz2⟩ := info_parts infoLex
  have s1 : (text l).size = l.length := text_size l
  obtain ⟨vb, w1, hcv, hvb, hb1, _⟩ := conv_at (P := Tryz.prog) l (by omega) 9 44 5 under9 underB under8 w
  have HCK := hid (RCheck_any vb l w1 (hvb w1 rfl))
  have HB1 := hid hb1
  have hck0 := check_le l
  clear hvb hb1
  have hgl : ∀ e w', GotL w.heap.size l e w' = if check l = l.length then (match lexp 0 l with
    | .ok ts => ∃ v, e = .returned (.tuple #[v, .int .i64 l.length, .int .i64 0]) ∧ OwnL w.heap.size w' v (ts.map lz)
    | .error x => e = .returned (.tuple #[.slice none 0 0, .int .i64 x.1, .int .i64 x.2]))
  else e = .returned (.tuple #[.slice none 0 0, .int .i64 (check l), .int .i64 4]) := fun _ _ => rfl
  by_cases hc : check l = l.length
  · have hgl2 : ∀ e w', GotL w.heap.size l e w' = _ := fun e w' => (hgl e w').trans (if_pos hc)
    have HG := hid hgl2
    have HT := hid (RAt.start hc)
    rw [hc] at HCK
    have HBl := hid (fun i ts (h : RAt l i ts) => h.blank)
    have HTk := hid (fun i ts (h : RAt l i ts) => h.token)
    have HBd := hid (fun i ts (h : RAt l i ts) => h.bad)
    have HD := hid (fun i ts (h : RAt l i ts) => h.done)
    have HFc := hid (fun i ts (h : RAt l i ts) => (show i ≤ l.length ∧ ts.length ≤ i from ⟨h.1.1, h.2.2⟩))
    generalize RAt l = T at *
    clear hgl hgl2 hc hck0
    go_enter Tryz.func8, Tryz.ntmps8
    go_wp2_with fail
    refine HCK.out.mono ?_
    rintro e w2 ⟨rfl, hb2⟩
    have HB2 := hid (bt HB1.out hb2)
    have hz2' : w.heap.size ≤ w2.heap.size := HB2.out.size
    clear hb2 hcv
    go_wp2_with fail
    go_loopw [6, 7] (fun tv iv wr => ∃ (i : Nat) (ts : List Lx), iv = .int .i64 i ∧ Hid (T i ts) ∧ OwnL w2.heap.size wr tv (ts.map lz) ∧ Below w2.heap.size w2 wr) (fun _ iv _ => l.length - (intOf iv).toNat)
    case atStart => exact ⟨0, [], rfl, HT, OwnL.nil _ _, b0 w2⟩
    case round =>
      rename World => wr
      obtain ⟨i, ts, rfl, HST, hOw, hbr⟩ := hrel
      obtain ⟨f1, f2⟩ := HFc.out i ts HST.out
      have hzr : w2.heap.size ≤ wr.heap.size := hbr.size
      by_cases hil : i < l.length
      · have hps : i < (text l).size := by rw [s1]; exact hil
        have hbt : ((text l)[i]'hps) = l[i] := by simp [text]; rfl
        have hbl := UInt8.toNat_lt l[i]
        have hsp := fun w => RSpace_any ((((text l)[i]'hps).toNat : Nat) : Int) w
        have B1 := hid (HBl.out i ts HST.out hil)
        have T1 := hid (HTk.out i ts HST.out hil)
        have D1 := hid (HBd.out i ts HST.out hil)
        have HOw := hid hOw
        have HNE := hid (hOw.other (Nat.le_refl _))
        have HBR := hid hbr
        have hdr : l.drop i = l[i] :: l.drop (i + 1) := List.drop_eq_getElem_cons hil
        clear hOw hbr
        cases hs : Utf.space ((l[i]).toNat : Int)
        · rw [hbt, hs] at hsp
          have HSP : Hid (∀ w, Calls Tryz.prog 19 #[.int .i64 (wrap64 ((((text l)[i]'hps).toNat : Nat) : Int))] w fun e w' => e = .returned (.bool false) ∧ w = w') := hid (fun w => by rw [hbt, IntWalk.wrap64_in _ (by omega)]; exact hsp w)
          have hwd := fun w => Fl.word_any l i (by omega) (by omega) w
          have hdg := fun w => Fl.digit_any l i w
          have hdg1 := fun w => Fl.digit_any l (i + 1) w
          simp only [Int.natCast_add, Int.cast_ofNat_Int] at hdg1
          have hnu := fun w => Fl.number_any l i (by omega) (by omega) w
          have hsg := fun w => Fl.sign_any l i (by omega) hil w
          have hxc : ∀ n, (text l).extract i (i + n) = text ((l.drop i).take n) := fun n => by rw [text_cut, Nat.add_sub_cancel_left]
          have hwl := wordN_le (l.drop i)
          have hnl := numN_le (l.drop i)
          have hgl3 := signN_le (l.drop i)
          rw [List.length_drop] at hwl hnl hgl3
          have hnB : numB (l.drop i) = (Fl.isd l[i] || dotted (l.drop i)) := by rw [hdr]; rfl
          rw [dotted_at hil] at hnB
          have hdi : digB l i = Fl.isd l[i] := digB_in hil
          have hhd : (l.drop i).head? = some l[i] := by rw [hdr]; rfl
          have hba := ba (b0 wr) (.cells #[.int .i64 0, .int .i64 i, .string ⟨#[]⟩] 32)
          have hza : (wr.alloc (.cells #[.int .i64 0, .int .i64 i, .string ⟨#[]⟩] 32)).heap.size = wr.heap.size + 1 := by simp
          have hcell := fun w3 (hb : Below (wr.alloc (.cells #[.int .i64 0, .int .i64 i, .string ⟨#[]⟩] 32)).heap.size (wr.alloc (.cells #[.int .i64 0, .int .i64 i, .string ⟨#[]⟩] 32)) w3) => (hb.block wr.heap.size (by rw [hza]; omega)).trans (heap_alloc_new wr (.cells #[.int .i64 0, .int .i64 i, .string ⟨#[]⟩] 32))
          have HBA := hid hba
          have HCE := hid hcell
          have HWD := hid hwd
          have HDG := hid hdg
          have HDG1 := hid hdg1
          have HNU := hid hnu
          have HSG := hid hsg
          have HON := hid (And.intro (@one_word (l.drop i)) (And.intro (@one_num' (l.drop i)) (And.intro (@one_quo' (l.drop i)) (@one_sgn' (l.drop i)))))
          have HXC := hid hxc
          have HBT := hid hbt
          have HNB := hid hnB
          have HDI := hid hdi
          have HHD := hid hhd
          have HRT := hid (fun w => rtext_any l (by omega) i hil w)
          have HDRR : Hid ((l.drop i).drop 1 = l.drop (i + 1)) := hid (by rw [List.drop_drop])
          clear hsp hwd hdg hdg1 hnu hsg hxc hbt hnB hdi hhd hba hcell hdr
          have hS : Utf.space ((l[i]).toNat : Int) = false := hs
          have T2 := hid (fun k n s ho => T1.out hS k n s ho)
          have D2 := hid (fun p x ho => D1.out hS p x ho)
          clear hS hs T1 D1 B1
          generalize l[i] = b at *
          generalize l.drop i = m at *
          by_cases hw0 : 0 < wordN m
          --BEGIN WORD
          · have hone := HON.out.1 hw0
            have hx := HXC.out (wordN m)
            have hkk := kind_key (m.take (wordN m))
            have R0 := T2.out _ _ _ hone
            have hkw := fun w => RKeyword_any (m.take (wordN m)) w
            have htl : (m.take (wordN m)).length ≤ l.length := by rw [List.length_take]; omega
            have HWD2 := HWD
            clear hone
            generalize m.take (wordN m) = x at *
            generalize wordN m = n at *
            have HKW := hid hkw
            clear hkw
            have hgt : (0 : Int) < (n : Int) := by omega
            cases hk : keyB x
            all_goals
              rw [hk] at HKW R0
              have R := hid R0
              clear R0 hk
              go_wp2_with fail
              refine (HSP.out _).mono ?_
              rintro e w3 ⟨rfl, rfl⟩
              go_wp2_with fail
              refine (HWD2.out _).mono ?_
              rintro e w4 ⟨rfl, hb4⟩
              have hz4 := hb4.size
              rw [hza] at hz4
              have p4 := HCE.out w4 hb4
              have d0 : w4.cell? ⟨wr.heap.size, 0, none⟩ = some (.int .i64 0) := by rw [Lib.cell_of_heap p4]; rfl
              have d1 : w4.cell? ⟨wr.heap.size, 1, none⟩ = some (.int .i64 i) := by rw [Lib.cell_of_heap p4]; rfl
              have d2 : w4.cell? ⟨wr.heap.size, 2, none⟩ = some (.string ⟨#[]⟩) := by rw [Lib.cell_of_heap p4]; rfl
              have ff0 := Lib.frozen_of_heap p4 0
              have ff2 := Lib.frozen_of_heap p4 2
              have hb4w : Below wr.heap.size wr w4 := HBA.out.trans (hb4.mono (by omega))
              have hb4s : Below wr.heap.size wr (w4.setCell ⟨wr.heap.size, 2, none⟩ (.string (text x))) := hb4w.setCell (p := ⟨wr.heap.size, 2, none⟩) (Nat.le_refl _) _
              have p5 : (w4.setCell ⟨wr.heap.size, 2, none⟩ (.string (text x))).heap[wr.heap.size]? = some (.cells #[.int .i64 0, .int .i64 i, .string (text x)] 32) := by simp [World.setCell, Array.getElem?_modify, p4]
              have hz5 : (w4.setCell ⟨wr.heap.size, 2, none⟩ (.string (text x))).heap.size = w4.heap.size := by simp [World.setCell]
              have HB5 := hid hb4s
              have P5 := hid p5
              clear p4 p5 hb4 hb4w hb4s
              go_wp2_with fail
              refine (HKW.out _).mono ?_
              rintro e w6 ⟨rfl, hb6⟩
              have hz6 := hb6.size
              rw [hz5] at hz6
              have p6 := (hb6.block wr.heap.size (by rw [hz5]; omega)).trans P5.out
              clear d0 d1 d2 ff0 ff2
              have d0 : w6.cell? ⟨wr.heap.size, 0, none⟩ = some (.int .i64 0) := by rw [Lib.cell_of_heap p6]; rfl
              have d1 : w6.cell? ⟨wr.heap.size, 1, none⟩ = some (.int .i64 i) := by rw [Lib.cell_of_heap p6]; rfl
              have d2 : w6.cell? ⟨wr.heap.size, 2, none⟩ = some (.string (text x)) := by rw [Lib.cell_of_heap p6]; rfl
              have ff0 := Lib.frozen_of_heap p6 0
              have ff2 := Lib.frozen_of_heap p6 2
              have hb6w : Below wr.heap.size wr w6 := HB5.out.trans (hb6.mono (by rw [hz5]; omega))
              have HBF0 := hid (HBR.out.trans (hb6w.mono hzr))
              have HOF0 := hid (OwnL.later HOw.out hb6w)
              clear hb6 hb6w p6
            · have HOF := HOF0
              have HBF := HBF0
              have HO7 : Hid (((w6).alloc (.cells #[.int .i64 0, .int .i64 i, .string (text x)] 32)).ownsRow w2.heap.size 32 3 u6 (ts.map lz).length ((ts.map lz).flatMap lzCells)) := hid (OwnL.later HOF.out (ba (b0 (w6)) _))
              have hrow := Row.ofBuild (sz := 3) (w6) #[.int .i64 0, .int .i64 i, .string (text x)] 32 1 rfl (by omega)
              try simp only [World.size_setCell] at hrow
              have HRow := hid hrow
              clear hrow
              go_wp2_with (at_builtin; refine wpList_append_row rfl _ _ 23 rfl w2.heap.size 32 i0 _ 3 32 undLs hi hz0 hz1 hz2 rfl (by decide) _ _ _ rfl HO7.out _ 1 [.int .i64 0, .int .i64 i, .string (text x)] rfl HRow.out ?e10 ?e11 ?e12 ?e13 ?_)
              case e10 => first | exact ⟨rfl, rfl, rfl⟩ | (intro u hu; simp only [List.mem_cons, List.mem_nil_iff, or_false] at hu; rcases hu with rfl | rfl | rfl <;> rfl)
              case e11 => first | omega | (simp only [List.length_map]; omega)
              case e12 => first | (unfold maxLen; omega) | (simp only [List.length_map]; unfold maxLen; omega)
              case e13 => have := HBF.out.size; first | omega | (simp at this ⊢; omega)
              intro v7 w7 hown7 hg7
              have hb7 : Below w2.heap.size w2 w7 := (HBF.out.alloc HBF.out.size _).grown hg7 (by have := HBF.out.size; simp at this ⊢; omega) (fun k hk => (HO7.out.lt k hk).1)
              have HO8 := hid (OwnL.snoc (l := ts.map lz) (t := lz ⟨0, i, x⟩) (by rw [List.length_map]; exact hown7))
              have HB7 := hid hb7
              clear hown7 hg7 hb7
              go_wp2_with fail
              go_roundw
              case rel => exact ⟨i + n, ts ++ [⟨0, i, x⟩], by go_num, R, by rw [List.map_append]; exact HO8.out, HB7.out⟩
              case measure => simp [intOf]; omega
            · have HOF : Hid (OwnL w2.heap.size (w6.setCell ⟨wr.heap.size, 0, none⟩ (.int .i64 1)) u6 (ts.map lz)) := hid (HOF0.out.set wr.heap.size 0 (.int .i64 1) HNE.out)
              have HBF := hid (HBF0.out.setCell (p := ⟨wr.heap.size, 0, none⟩) hzr (.int .i64 1))
              have HO7 : Hid (((w6.setCell ⟨wr.heap.size, 0, none⟩ (.int .i64 1)).alloc (.cells #[.int .i64 1, .int .i64 i, .string (text x)] 32)).ownsRow w2.heap.size 32 3 u6 (ts.map lz).length ((ts.map lz).flatMap lzCells)) := hid (OwnL.later HOF.out (ba (b0 (w6.setCell ⟨wr.heap.size, 0, none⟩ (.int .i64 1))) _))
              have hrow := Row.ofBuild (sz := 3) (w6.setCell ⟨wr.heap.size, 0, none⟩ (.int .i64 1)) #[.int .i64 1, .int .i64 i, .string (text x)] 32 1 rfl (by omega)
              try simp only [World.size_setCell] at hrow
              have HRow := hid hrow
              clear hrow
              go_wp2_with (at_builtin; refine wpList_append_row rfl _ _ 23 rfl w2.heap.size 32 i0 _ 3 32 undLs hi hz0 hz1 hz2 rfl (by decide) _ _ _ rfl HO7.out _ 1 [.int .i64 1, .int .i64 i, .string (text x)] rfl HRow.out ?e20 ?e21 ?e22 ?e23 ?_)
              case e20 => first | exact ⟨rfl, rfl, rfl⟩ | (intro u hu; simp only [List.mem_cons, List.mem_nil_iff, or_false] at hu; rcases hu with rfl | rfl | rfl <;> rfl)
              case e21 => first | omega | (simp only [List.length_map]; omega)
              case e22 => first | (unfold maxLen; omega) | (simp only [List.length_map]; unfold maxLen; omega)
              case e23 => have := HBF.out.size; first | omega | (simp at this ⊢; omega)
              intro v7 w7 hown7 hg7
              have hb7 : Below w2.heap.size w2 w7 := (HBF.out.alloc HBF.out.size _).grown hg7 (by have := HBF.out.size; simp at this ⊢; omega) (fun k hk => (HO7.out.lt k hk).1)
              have HO8 := hid (OwnL.snoc (l := ts.map lz) (t := lz ⟨1, i, x⟩) (by rw [List.length_map]; exact hown7))
              have HB7 := hid hb7
              clear hown7 hg7 hb7
              go_wp2_with fail
              go_roundw
              case rel => exact ⟨i + n, ts ++ [⟨1, i, x⟩], by go_num, R, by rw [List.map_append]; exact HO8.out, HB7.out⟩
              case measure => simp [intOf]; omega
          --END WORD
          · have hw1 : wordN m = 0 := by omega
            have HDI2 := HDI.out
            cases hd0 : Fl.isd b
            · have hdB0 : digB l i = false := by rw [HDI2, hd0]
              rw [hdB0] at HDG
              by_cases h46 : b = 46
              · have q46 : (((text l)[i]'hps).toNat : Int) = 46 := by rw [HBT.out, h46]; rfl
                rw [q46, IntWalk.wrap64_in 46 (by omega)] at HSP
                cases hd1 : digB l (i + 1)
                · have hnB : numB m = false := by rw [HNB.out, hd0, hd1]; simp
                  rw [hd1] at HDG1
                  have h34 : b ≠ 34 := by rw [h46]; decide
                  --BEGIN SIGN1
                  have q34 : ((((text l)[i]'hps).toNat : Int) == 34) = false := by rw [HBT.out]; exact byte_ne h34

                  have hone := HON.out.2.2.2 hw1 hnB (by rw [HHD.out]; simpa using h34)
                  rw [hw1] at HWD
                  by_cases hs0 : signN m = 0
                  · rw [if_pos hs0] at hone
                    have R := hid (D2.out _ _ hone)
                    rw [hs0] at HSG
                    clear hone hs0 h34 hnB hd0 hdB0 HDI2 h46 hd1
                    go_wp2_with fail
                    refine (HSP.out _).mono ?_
                    rintro e w3 ⟨rfl, rfl⟩
                    go_wp2_with fail
                    refine (HWD.out _).mono ?_
                    rintro e w4 ⟨rfl, hb4⟩
                    have hz4 := hb4.size
                    rw [hza] at hz4
                    have p4 := HCE.out w4 hb4

                    have d0 : w4.cell? ⟨wr.heap.size, 0, none⟩ = some (.int .i64 0) := by rw [Lib.cell_of_heap p4]; rfl
                    have d1 : w4.cell? ⟨wr.heap.size, 1, none⟩ = some (.int .i64 i) := by rw [Lib.cell_of_heap p4]; rfl
                    have d2 : w4.cell? ⟨wr.heap.size, 2, none⟩ = some (.string ⟨#[]⟩) := by rw [Lib.cell_of_heap p4]; rfl
                    have ff0 := Lib.frozen_of_heap p4 0
                    have ff2 := Lib.frozen_of_heap p4 2

                    have hb4w : Below wr.heap.size wr w4 := HBA.out.trans (hb4.mono (by omega))
                    have HBW := hid hb4w
                    have HBF0 := hid (HBR.out.trans (hb4w.mono hzr))
                    have HOF0 := hid (OwnL.later HOw.out hb4w)
                    have P4 := hid p4
                    clear hb4 hb4w p4

                    go_wp2_with fail
                    refine (HDG.out _).mono ?_
                    rintro e w5 ⟨rfl, rfl⟩

                    go_wp2_with fail
                    refine (HDG1.out _).mono ?_
                    rintro e w6 ⟨rfl, rfl⟩

                    go_wp2_with fail
                    refine (HSG.out _).mono ?_
                    rintro e w7 ⟨rfl, rfl⟩
                    go_wp2
                    go_ret3
                    refine ⟨?_, HB2.out.trans (HBF0.out.mono hz2')⟩
                    rw [HG.out, R.out]
                    rfl
                  · rw [if_neg hs0] at hone
                    have hx := HXC.out (signN m)
                    have R := hid (T2.out _ _ _ hone)
                    have qs0 : ((signN m : Int) == 0) = false := by rw [beq_eq_false_iff_ne]; omega
                    clear hone h34 hnB hd0 hdB0 HDI2 h46 hd1
                    generalize m.take (signN m) = x at *
                    generalize signN m = n at *
                    go_wp2_with fail
                    refine (HSP.out _).mono ?_
                    rintro e w3 ⟨rfl, rfl⟩
                    go_wp2_with fail
                    refine (HWD.out _).mono ?_
                    rintro e w4 ⟨rfl, hb4⟩
                    have hz4 := hb4.size
                    rw [hza] at hz4
                    have p4 := HCE.out w4 hb4

                    have d0 : w4.cell? ⟨wr.heap.size, 0, none⟩ = some (.int .i64 0) := by rw [Lib.cell_of_heap p4]; rfl
                    have d1 : w4.cell? ⟨wr.heap.size, 1, none⟩ = some (.int .i64 i) := by rw [Lib.cell_of_heap p4]; rfl
                    have d2 : w4.cell? ⟨wr.heap.size, 2, none⟩ = some (.string ⟨#[]⟩) := by rw [Lib.cell_of_heap p4]; rfl
                    have ff0 := Lib.frozen_of_heap p4 0
                    have ff2 := Lib.frozen_of_heap p4 2

                    have hb4w : Below wr.heap.size wr w4 := HBA.out.trans (hb4.mono (by omega))
                    have HBW := hid hb4w
                    have HBF0 := hid (HBR.out.trans (hb4w.mono hzr))
                    have HOF0 := hid (OwnL.later HOw.out hb4w)
                    have P4 := hid p4
                    clear hb4 hb4w p4

                    go_wp2_with fail
                    refine (HDG.out _).mono ?_
                    rintro e w5 ⟨rfl, rfl⟩

                    go_wp2_with fail
                    refine (HDG1.out _).mono ?_
                    rintro e w6 ⟨rfl, rfl⟩

                    go_wp2_with fail
                    refine (HSG.out _).mono ?_
                    rintro e w7 ⟨rfl, rfl⟩

                    have HOF1 : Hid (OwnL w2.heap.size (w4.setCell ⟨wr.heap.size, 0, none⟩ (.int .i64 4)) u6 (ts.map lz)) := hid (HOF0.out.set wr.heap.size 0 (.int .i64 4) HNE.out)
                    have HOF : Hid (OwnL w2.heap.size ((w4.setCell ⟨wr.heap.size, 0, none⟩ (.int .i64 4)).setCell ⟨wr.heap.size, 2, none⟩ (.string (text x))) u6 (ts.map lz)) := hid (HOF1.out.set wr.heap.size 2 (.string (text x)) HNE.out)
                    have HBF := hid ((HBF0.out.setCell (p := ⟨wr.heap.size, 0, none⟩) hzr (.int .i64 4)).setCell (p := ⟨wr.heap.size, 2, none⟩) hzr (.string (text x)))

                    have HO7 : Hid ((((w4.setCell ⟨wr.heap.size, 0, none⟩ (.int .i64 4)).setCell ⟨wr.heap.size, 2, none⟩ (.string (text x))).alloc (.cells #[.int .i64 4, .int .i64 i, .string (text x)] 32)).ownsRow w2.heap.size 32 3 u6 (ts.map lz).length ((ts.map lz).flatMap lzCells)) := hid (OwnL.later HOF.out (ba (b0 ((w4.setCell ⟨wr.heap.size, 0, none⟩ (.int .i64 4)).setCell ⟨wr.heap.size, 2, none⟩ (.string (text x)))) _))
                    have hrow := Row.ofBuild (sz := 3) ((w4.setCell ⟨wr.heap.size, 0, none⟩ (.int .i64 4)).setCell ⟨wr.heap.size, 2, none⟩ (.string (text x))) #[.int .i64 4, .int .i64 i, .string (text x)] 32 1 rfl (by omega)
                    try simp only [World.size_setCell] at hrow
                    have HRow := hid hrow
                    clear hrow
                    go_wp2_with (at_builtin; refine wpList_append_row rfl _ _ 23 rfl w2.heap.size 32 i0 _ 3 32 undLs hi hz0 hz1 hz2 rfl (by decide) _ _ _ rfl HO7.out _ 1 [.int .i64 4, .int .i64 i, .string (text x)] rfl HRow.out ?e60 ?e61 ?e62 ?e63 ?_)
                    case e60 => first | exact ⟨rfl, rfl, rfl⟩ | (intro u hu; simp only [List.mem_cons, List.mem_nil_iff, or_false] at hu; rcases hu with rfl | rfl | rfl <;> rfl)
                    case e61 => first | omega | (simp only [List.length_map]; omega)
                    case e62 => first | (unfold maxLen; omega) | (simp only [List.length_map]; unfold maxLen; omega)
                    case e63 => have := HBF.out.size; first | omega | (simp at this ⊢; omega)
                    intro v7 w7 hown7 hg7
                    have hb7 : Below w2.heap.size w2 w7 := (HBF.out.alloc HBF.out.size _).grown hg7 (by have := HBF.out.size; simp at this ⊢; omega) (fun k hk => (HO7.out.lt k hk).1)
                    have HO8 := hid (OwnL.snoc (l := ts.map lz) (t := lz ⟨4, i, x⟩) (by rw [List.length_map]; exact hown7))
                    have HB7 := hid hb7
                    clear hown7 hg7 hb7
                    go_wp2_with fail
                    go_roundw
                    case rel => exact ⟨i + n, ts ++ [⟨4, i, x⟩], by go_num, R, by rw [List.map_append]; exact HO8.out, HB7.out⟩
                    case measure => simp [intOf]; omega
                  --END SIGN1
                · have hnB : numB m = true := by rw [HNB.out, hd1, h46]; simp
                  rw [hd1] at HDG1
                  clear hd0 hd1 h46 hdB0 HDI2
                  --BEGIN NUM2
                  have hone := HON.out.2.1 hw1 hnB
                  have hn1 := (one_pos hone).1
                  have hx := HXC.out (numN m)
                  have R0 := T2.out _ _ _ hone
                  have R := hid R0
                  clear hone R0
                  rw [hw1] at HWD
                  generalize m.take (numN m) = x at *
                  generalize numN m = n at *

                  go_wp2_with fail
                  refine (HSP.out _).mono ?_
                  rintro e w3 ⟨rfl, rfl⟩
                  go_wp2_with fail
                  refine (HWD.out _).mono ?_
                  rintro e w4 ⟨rfl, hb4⟩
                  have hz4 := hb4.size
                  rw [hza] at hz4
                  have p4 := HCE.out w4 hb4

                  have d0 : w4.cell? ⟨wr.heap.size, 0, none⟩ = some (.int .i64 0) := by rw [Lib.cell_of_heap p4]; rfl
                  have d1 : w4.cell? ⟨wr.heap.size, 1, none⟩ = some (.int .i64 i) := by rw [Lib.cell_of_heap p4]; rfl
                  have d2 : w4.cell? ⟨wr.heap.size, 2, none⟩ = some (.string ⟨#[]⟩) := by rw [Lib.cell_of_heap p4]; rfl
                  have ff0 := Lib.frozen_of_heap p4 0
                  have ff2 := Lib.frozen_of_heap p4 2

                  have hb4w : Below wr.heap.size wr w4 := HBA.out.trans (hb4.mono (by omega))
                  have HBW := hid hb4w
                  have HBF0 := hid (HBR.out.trans (hb4w.mono hzr))
                  have HOF0 := hid (OwnL.later HOw.out hb4w)
                  have P4 := hid p4
                  clear hb4 hb4w p4

                  go_wp2_with fail
                  refine (HDG.out _).mono ?_
                  rintro e w5 ⟨rfl, rfl⟩

                  go_wp2_with fail
                  refine (HDG1.out _).mono ?_
                  rintro e w6 ⟨rfl, rfl⟩

                  go_wp2_with fail
                  refine (HNU.out _).mono ?_
                  rintro e w6 ⟨rfl, rfl⟩

                  have HOF1 : Hid (OwnL w2.heap.size (w4.setCell ⟨wr.heap.size, 0, none⟩ (.int .i64 2)) u6 (ts.map lz)) := hid (HOF0.out.set wr.heap.size 0 (.int .i64 2) HNE.out)
                  have HOF : Hid (OwnL w2.heap.size ((w4.setCell ⟨wr.heap.size, 0, none⟩ (.int .i64 2)).setCell ⟨wr.heap.size, 2, none⟩ (.string (text x))) u6 (ts.map lz)) := hid (HOF1.out.set wr.heap.size 2 (.string (text x)) HNE.out)
                  have HBF := hid ((HBF0.out.setCell (p := ⟨wr.heap.size, 0, none⟩) hzr (.int .i64 2)).setCell (p := ⟨wr.heap.size, 2, none⟩) hzr (.string (text x)))

                  have HO7 : Hid ((((w4.setCell ⟨wr.heap.size, 0, none⟩ (.int .i64 2)).setCell ⟨wr.heap.size, 2, none⟩ (.string (text x))).alloc (.cells #[.int .i64 2, .int .i64 i, .string (text x)] 32)).ownsRow w2.heap.size 32 3 u6 (ts.map lz).length ((ts.map lz).flatMap lzCells)) := hid (OwnL.later HOF.out (ba (b0 ((w4.setCell ⟨wr.heap.size, 0, none⟩ (.int .i64 2)).setCell ⟨wr.heap.size, 2, none⟩ (.string (text x)))) _))
                  have hrow := Row.ofBuild (sz := 3) ((w4.setCell ⟨wr.heap.size, 0, none⟩ (.int .i64 2)).setCell ⟨wr.heap.size, 2, none⟩ (.string (text x))) #[.int .i64 2, .int .i64 i, .string (text x)] 32 1 rfl (by omega)
                  try simp only [World.size_setCell] at hrow
                  have HRow := hid hrow
                  clear hrow
                  go_wp2_with (at_builtin; refine wpList_append_row rfl _ _ 23 rfl w2.heap.size 32 i0 _ 3 32 undLs hi hz0 hz1 hz2 rfl (by decide) _ _ _ rfl HO7.out _ 1 [.int .i64 2, .int .i64 i, .string (text x)] rfl HRow.out ?e50 ?e51 ?e52 ?e53 ?_)
                  case e50 => first | exact ⟨rfl, rfl, rfl⟩ | (intro u hu; simp only [List.mem_cons, List.mem_nil_iff, or_false] at hu; rcases hu with rfl | rfl | rfl <;> rfl)
                  case e51 => first | omega | (simp only [List.length_map]; omega)
                  case e52 => first | (unfold maxLen; omega) | (simp only [List.length_map]; unfold maxLen; omega)
                  case e53 => have := HBF.out.size; first | omega | (simp at this ⊢; omega)
                  intro v7 w7 hown7 hg7
                  have hb7 : Below w2.heap.size w2 w7 := (HBF.out.alloc HBF.out.size _).grown hg7 (by have := HBF.out.size; simp at this ⊢; omega) (fun k hk => (HO7.out.lt k hk).1)
                  have HO8 := hid (OwnL.snoc (l := ts.map lz) (t := lz ⟨2, i, x⟩) (by rw [List.length_map]; exact hown7))
                  have HB7 := hid hb7
                  clear hown7 hg7 hb7
                  go_wp2_with fail
                  go_roundw
                  case rel => exact ⟨i + n, ts ++ [⟨2, i, x⟩], by go_num, R, by rw [List.map_append]; exact HO8.out, HB7.out⟩
                  case measure => simp [intOf]; omega
                  --END NUM2
              · have q46 : ((((text l)[i]'hps).toNat : Int) == 46) = false := by rw [HBT.out]; exact byte_ne h46
                have hnB : numB m = false := by rw [HNB.out, hd0, beq_eq_false_iff_ne.2 h46]; rfl
                by_cases h34 : b = 34
                · have q34 : (((text l)[i]'hps).toNat : Int) = 34 := by rw [HBT.out, h34]; rfl
                  rw [q34, IntWalk.wrap64_in 34 (by omega)] at HSP
                  --BEGIN QUO
                  have hone := HON.out.2.2.1 hw1 hnB (by rw [HHD.out, h34])
                  rw [HDRR.out] at hone
                  unfold Fl.quoted at hone
                  rw [hw1] at HWD
                  have hsf := str_facts _ (l.drop (i + 1)) rfl
                  have hse := fun h => str_error (m := l.drop (i + 1)) h
                  have hrt := HRT.out
                  unfold rtextV at hrt
                  obtain ⟨⟨sv, sp, se⟩, hst⟩ : ∃ x, x = str (l.drop (i + 1)) := ⟨_, rfl⟩
                  rw [← hst] at hrt hone hsf hse
                  dsimp only at hrt hone hsf hse
                  have hsl1 := hsf.1
                  rw [List.length_drop] at hsl1
                  have hse3 := hsf.2.1
                  clear hst hsf
                  by_cases he : se = 0
                  · rw [if_pos he] at hone
                    have HRX : Hid (∀ w, Calls Tryz.prog 24 #[.string (text l), .int .i64 i] w fun e w' => e = .returned (.tuple #[.string (text sv), .int .i64 ((i + 1 + sp : Nat) : Int), .int .i64 0, .int .i64 0]) ∧ Below w.heap.size w w') := hid (fun w => by have := hrt w; rw [if_pos he] at this; exact this)
                    have R0 : T (i + (1 + sp)) (ts ++ [⟨3, i, sv⟩]) := T2.out _ _ _ hone
                    rw [show i + (1 + sp) = i + 1 + sp from by omega] at R0
                    have R := hid R0
                    clear hone R0 hrt hse he h34 hnB hd0 hdB0 HDI2 h46
                    obtain ⟨j, hj⟩ : ∃ j, j = i + 1 + sp := ⟨_, rfl⟩
                    rw [← hj] at R HRX
                    go_wp2_with fail
                    refine (HSP.out _).mono ?_
                    rintro e w3 ⟨rfl, rfl⟩
                    go_wp2_with fail
                    refine (HWD.out _).mono ?_
                    rintro e w4 ⟨rfl, hb4⟩
                    have hz4 := hb4.size
                    rw [hza] at hz4
                    have p4 := HCE.out w4 hb4

                    have d0 : w4.cell? ⟨wr.heap.size, 0, none⟩ = some (.int .i64 0) := by rw [Lib.cell_of_heap p4]; rfl
                    have d1 : w4.cell? ⟨wr.heap.size, 1, none⟩ = some (.int .i64 i) := by rw [Lib.cell_of_heap p4]; rfl
                    have d2 : w4.cell? ⟨wr.heap.size, 2, none⟩ = some (.string ⟨#[]⟩) := by rw [Lib.cell_of_heap p4]; rfl
                    have ff0 := Lib.frozen_of_heap p4 0
                    have ff2 := Lib.frozen_of_heap p4 2

                    have hb4w : Below wr.heap.size wr w4 := HBA.out.trans (hb4.mono (by omega))
                    have HBW := hid hb4w
                    have HBF0 := hid (HBR.out.trans (hb4w.mono hzr))
                    have HOF0 := hid (OwnL.later HOw.out hb4w)
                    have P4 := hid p4
                    clear hb4 hb4w p4

                    go_wp2_with fail
                    refine (HDG.out _).mono ?_
                    rintro e w5 ⟨rfl, rfl⟩

                    go_wp2_with fail
                    refine (HRX.out _).mono ?_
                    rintro e w6 ⟨rfl, hb6⟩
                    have hz6 := hb6.size
                    have p6 := (hb6.block wr.heap.size (by omega)).trans P4.out
                    clear d0 d1 d2 ff0 ff2

                    have d0 : w6.cell? ⟨wr.heap.size, 0, none⟩ = some (.int .i64 0) := by rw [Lib.cell_of_heap p6]; rfl
                    have d1 : w6.cell? ⟨wr.heap.size, 1, none⟩ = some (.int .i64 i) := by rw [Lib.cell_of_heap p6]; rfl
                    have d2 : w6.cell? ⟨wr.heap.size, 2, none⟩ = some (.string ⟨#[]⟩) := by rw [Lib.cell_of_heap p6]; rfl
                    have ff0 := Lib.frozen_of_heap p6 0
                    have ff2 := Lib.frozen_of_heap p6 2

                    have hb6w : Below wr.heap.size wr w6 := HBW.out.trans (hb6.mono (by omega))
                    clear HBF0 HOF0
                    have HBF0 := hid (HBR.out.trans (hb6w.mono hzr))
                    have HOF0 := hid (OwnL.later HOw.out hb6w)
                    clear hb6 hb6w p6

                    have HOF1 : Hid (OwnL w2.heap.size (w6.setCell ⟨wr.heap.size, 0, none⟩ (.int .i64 3)) u6 (ts.map lz)) := hid (HOF0.out.set wr.heap.size 0 (.int .i64 3) HNE.out)
                    have HOF : Hid (OwnL w2.heap.size ((w6.setCell ⟨wr.heap.size, 0, none⟩ (.int .i64 3)).setCell ⟨wr.heap.size, 2, none⟩ (.string (text sv))) u6 (ts.map lz)) := hid (HOF1.out.set wr.heap.size 2 (.string (text sv)) HNE.out)
                    have HBF := hid ((HBF0.out.setCell (p := ⟨wr.heap.size, 0, none⟩) hzr (.int .i64 3)).setCell (p := ⟨wr.heap.size, 2, none⟩) hzr (.string (text sv)))

                    have HO7 : Hid ((((w6.setCell ⟨wr.heap.size, 0, none⟩ (.int .i64 3)).setCell ⟨wr.heap.size, 2, none⟩ (.string (text sv))).alloc (.cells #[.int .i64 3, .int .i64 i, .string (text sv)] 32)).ownsRow w2.heap.size 32 3 u6 (ts.map lz).length ((ts.map lz).flatMap lzCells)) := hid (OwnL.later HOF.out (ba (b0 ((w6.setCell ⟨wr.heap.size, 0, none⟩ (.int .i64 3)).setCell ⟨wr.heap.size, 2, none⟩ (.string (text sv)))) _))
                    have hrow := Row.ofBuild (sz := 3) ((w6.setCell ⟨wr.heap.size, 0, none⟩ (.int .i64 3)).setCell ⟨wr.heap.size, 2, none⟩ (.string (text sv))) #[.int .i64 3, .int .i64 i, .string (text sv)] 32 1 rfl (by omega)
                    try simp only [World.size_setCell] at hrow
                    have HRow := hid hrow
                    clear hrow
                    go_wp2_with (at_builtin; refine wpList_append_row rfl _ _ 23 rfl w2.heap.size 32 i0 _ 3 32 undLs hi hz0 hz1 hz2 rfl (by decide) _ _ _ rfl HO7.out _ 1 [.int .i64 3, .int .i64 i, .string (text sv)] rfl HRow.out ?e30 ?e31 ?e32 ?e33 ?_)
                    case e30 => first | exact ⟨rfl, rfl, rfl⟩ | (intro u hu; simp only [List.mem_cons, List.mem_nil_iff, or_false] at hu; rcases hu with rfl | rfl | rfl <;> rfl)
                    case e31 => first | omega | (simp only [List.length_map]; omega)
                    case e32 => first | (unfold maxLen; omega) | (simp only [List.length_map]; unfold maxLen; omega)
                    case e33 => have := HBF.out.size; first | omega | (simp at this ⊢; omega)
                    intro v7 w7 hown7 hg7
                    have hb7 : Below w2.heap.size w2 w7 := (HBF.out.alloc HBF.out.size _).grown hg7 (by have := HBF.out.size; simp at this ⊢; omega) (fun k hk => (HO7.out.lt k hk).1)
                    have HO8 := hid (OwnL.snoc (l := ts.map lz) (t := lz ⟨3, i, sv⟩) (by rw [List.length_map]; exact hown7))
                    have HB7 := hid hb7
                    clear hown7 hg7 hb7
                    go_wp2_with fail
                    go_roundw
                    case rel => exact ⟨j, ts ++ [⟨3, i, sv⟩], by go_num, R, by rw [List.map_append]; exact HO8.out, HB7.out⟩
                    case measure => simp [intOf]; omega
                  · rw [if_neg he] at hone
                    have HRX : Hid (∀ w, Calls Tryz.prog 24 #[.string (text l), .int .i64 i] w fun e w' => e = .returned (.tuple #[.string (text []), .int .i64 0, .int .i64 ((i + 1 + sp : Nat) : Int), .int .i64 se]) ∧ Below w.heap.size w w') := hid (fun w => by have := hrt w; rw [if_neg he] at this; exact this)
                    have R0 := D2.out _ _ hone
                    rw [show i + (1 + sp) = i + 1 + sp from by omega] at R0
                    have R := hid R0
                    have qe : ((se : Int) == 0) = false := by rw [beq_eq_false_iff_ne]; omega
                    clear hone R0 hrt hse he h34 hnB hd0 hdB0 HDI2 h46
                    obtain ⟨j, hj⟩ : ∃ j, j = i + 1 + sp := ⟨_, rfl⟩
                    rw [← hj] at R HRX
                    clear hj
                    go_wp2_with fail
                    refine (HSP.out _).mono ?_
                    rintro e w3 ⟨rfl, rfl⟩
                    go_wp2_with fail
                    refine (HWD.out _).mono ?_
                    rintro e w4 ⟨rfl, hb4⟩
                    have hz4 := hb4.size
                    rw [hza] at hz4
                    have p4 := HCE.out w4 hb4

                    have d0 : w4.cell? ⟨wr.heap.size, 0, none⟩ = some (.int .i64 0) := by rw [Lib.cell_of_heap p4]; rfl
                    have d1 : w4.cell? ⟨wr.heap.size, 1, none⟩ = some (.int .i64 i) := by rw [Lib.cell_of_heap p4]; rfl
                    have d2 : w4.cell? ⟨wr.heap.size, 2, none⟩ = some (.string ⟨#[]⟩) := by rw [Lib.cell_of_heap p4]; rfl
                    have ff0 := Lib.frozen_of_heap p4 0
                    have ff2 := Lib.frozen_of_heap p4 2

                    have hb4w : Below wr.heap.size wr w4 := HBA.out.trans (hb4.mono (by omega))
                    have HBW := hid hb4w
                    have HBF0 := hid (HBR.out.trans (hb4w.mono hzr))
                    have HOF0 := hid (OwnL.later HOw.out hb4w)
                    have P4 := hid p4
                    clear hb4 hb4w p4

                    go_wp2_with fail
                    refine (HDG.out _).mono ?_
                    rintro e w5 ⟨rfl, rfl⟩

                    go_wp2_with fail
                    refine (HRX.out _).mono ?_
                    rintro e w6 ⟨rfl, hb6⟩
                    have hb6w : Below wr.heap.size wr w6 := HBW.out.trans (hb6.mono (by omega))
                    clear HBF0 HOF0
                    have HBF0 := hid (HBR.out.trans (hb6w.mono hzr))
                    clear hb6 hb6w
                    go_wp2
                    go_ret3
                    refine ⟨?_, HB2.out.trans (HBF0.out.mono hz2')⟩
                    rw [HG.out, R.out]
                    rfl
                  --END QUO
                · have q34 : ((((text l)[i]'hps).toNat : Int) == 34) = false := by rw [HBT.out]; exact byte_ne h34
                  --BEGIN SIGN2
                  have hone := HON.out.2.2.2 hw1 hnB (by rw [HHD.out]; simpa using h34)
                  rw [hw1] at HWD
                  by_cases hs0 : signN m = 0
                  · rw [if_pos hs0] at hone
                    have R := hid (D2.out _ _ hone)
                    rw [hs0] at HSG
                    clear hone hs0 h34 hnB hd0 hdB0 HDI2 h46
                    go_wp2_with fail
                    refine (HSP.out _).mono ?_
                    rintro e w3 ⟨rfl, rfl⟩
                    go_wp2_with fail
                    refine (HWD.out _).mono ?_
                    rintro e w4 ⟨rfl, hb4⟩
                    have hz4 := hb4.size
                    rw [hza] at hz4
                    have p4 := HCE.out w4 hb4

                    have d0 : w4.cell? ⟨wr.heap.size, 0, none⟩ = some (.int .i64 0) := by rw [Lib.cell_of_heap p4]; rfl
                    have d1 : w4.cell? ⟨wr.heap.size, 1, none⟩ = some (.int .i64 i) := by rw [Lib.cell_of_heap p4]; rfl
                    have d2 : w4.cell? ⟨wr.heap.size, 2, none⟩ = some (.string ⟨#[]⟩) := by rw [Lib.cell_of_heap p4]; rfl
                    have ff0 := Lib.frozen_of_heap p4 0
                    have ff2 := Lib.frozen_of_heap p4 2

                    have hb4w : Below wr.heap.size wr w4 := HBA.out.trans (hb4.mono (by omega))
                    have HBW := hid hb4w
                    have HBF0 := hid (HBR.out.trans (hb4w.mono hzr))
                    have HOF0 := hid (OwnL.later HOw.out hb4w)
                    have P4 := hid p4
                    clear hb4 hb4w p4

                    go_wp2_with fail
                    refine (HDG.out _).mono ?_
                    rintro e w5 ⟨rfl, rfl⟩

                    go_wp2_with fail
                    refine (HSG.out _).mono ?_
                    rintro e w7 ⟨rfl, rfl⟩
                    go_wp2
                    go_ret3
                    refine ⟨?_, HB2.out.trans (HBF0.out.mono hz2')⟩
                    rw [HG.out, R.out]
                    rfl
                  · rw [if_neg hs0] at hone
                    have hx := HXC.out (signN m)
                    have R := hid (T2.out _ _ _ hone)
                    have qs0 : ((signN m : Int) == 0) = false := by rw [beq_eq_false_iff_ne]; omega
                    clear hone h34 hnB hd0 hdB0 HDI2 h46
                    generalize m.take (signN m) = x at *
                    generalize signN m = n at *
                    go_wp2_with fail
                    refine (HSP.out _).mono ?_
                    rintro e w3 ⟨rfl, rfl⟩
                    go_wp2_with fail
                    refine (HWD.out _).mono ?_
                    rintro e w4 ⟨rfl, hb4⟩
                    have hz4 := hb4.size
                    rw [hza] at hz4
                    have p4 := HCE.out w4 hb4

                    have d0 : w4.cell? ⟨wr.heap.size, 0, none⟩ = some (.int .i64 0) := by rw [Lib.cell_of_heap p4]; rfl
                    have d1 : w4.cell? ⟨wr.heap.size, 1, none⟩ = some (.int .i64 i) := by rw [Lib.cell_of_heap p4]; rfl
                    have d2 : w4.cell? ⟨wr.heap.size, 2, none⟩ = some (.string ⟨#[]⟩) := by rw [Lib.cell_of_heap p4]; rfl
                    have ff0 := Lib.frozen_of_heap p4 0
                    have ff2 := Lib.frozen_of_heap p4 2

                    have hb4w : Below wr.heap.size wr w4 := HBA.out.trans (hb4.mono (by omega))
                    have HBW := hid hb4w
                    have HBF0 := hid (HBR.out.trans (hb4w.mono hzr))
                    have HOF0 := hid (OwnL.later HOw.out hb4w)
                    have P4 := hid p4
                    clear hb4 hb4w p4

                    go_wp2_with fail
                    refine (HDG.out _).mono ?_
                    rintro e w5 ⟨rfl, rfl⟩

                    go_wp2_with fail
                    refine (HSG.out _).mono ?_
                    rintro e w7 ⟨rfl, rfl⟩

                    have HOF1 : Hid (OwnL w2.heap.size (w4.setCell ⟨wr.heap.size, 0, none⟩ (.int .i64 4)) u6 (ts.map lz)) := hid (HOF0.out.set wr.heap.size 0 (.int .i64 4) HNE.out)
                    have HOF : Hid (OwnL w2.heap.size ((w4.setCell ⟨wr.heap.size, 0, none⟩ (.int .i64 4)).setCell ⟨wr.heap.size, 2, none⟩ (.string (text x))) u6 (ts.map lz)) := hid (HOF1.out.set wr.heap.size 2 (.string (text x)) HNE.out)
                    have HBF := hid ((HBF0.out.setCell (p := ⟨wr.heap.size, 0, none⟩) hzr (.int .i64 4)).setCell (p := ⟨wr.heap.size, 2, none⟩) hzr (.string (text x)))

                    have HO7 : Hid ((((w4.setCell ⟨wr.heap.size, 0, none⟩ (.int .i64 4)).setCell ⟨wr.heap.size, 2, none⟩ (.string (text x))).alloc (.cells #[.int .i64 4, .int .i64 i, .string (text x)] 32)).ownsRow w2.heap.size 32 3 u6 (ts.map lz).length ((ts.map lz).flatMap lzCells)) := hid (OwnL.later HOF.out (ba (b0 ((w4.setCell ⟨wr.heap.size, 0, none⟩ (.int .i64 4)).setCell ⟨wr.heap.size, 2, none⟩ (.string (text x)))) _))
                    have hrow := Row.ofBuild (sz := 3) ((w4.setCell ⟨wr.heap.size, 0, none⟩ (.int .i64 4)).setCell ⟨wr.heap.size, 2, none⟩ (.string (text x))) #[.int .i64 4, .int .i64 i, .string (text x)] 32 1 rfl (by omega)
                    try simp only [World.size_setCell] at hrow
                    have HRow := hid hrow
                    clear hrow
                    go_wp2_with (at_builtin; refine wpList_append_row rfl _ _ 23 rfl w2.heap.size 32 i0 _ 3 32 undLs hi hz0 hz1 hz2 rfl (by decide) _ _ _ rfl HO7.out _ 1 [.int .i64 4, .int .i64 i, .string (text x)] rfl HRow.out ?e70 ?e71 ?e72 ?e73 ?_)
                    case e70 => first | exact ⟨rfl, rfl, rfl⟩ | (intro u hu; simp only [List.mem_cons, List.mem_nil_iff, or_false] at hu; rcases hu with rfl | rfl | rfl <;> rfl)
                    case e71 => first | omega | (simp only [List.length_map]; omega)
                    case e72 => first | (unfold maxLen; omega) | (simp only [List.length_map]; unfold maxLen; omega)
                    case e73 => have := HBF.out.size; first | omega | (simp at this ⊢; omega)
                    intro v7 w7 hown7 hg7
                    have hb7 : Below w2.heap.size w2 w7 := (HBF.out.alloc HBF.out.size _).grown hg7 (by have := HBF.out.size; simp at this ⊢; omega) (fun k hk => (HO7.out.lt k hk).1)
                    have HO8 := hid (OwnL.snoc (l := ts.map lz) (t := lz ⟨4, i, x⟩) (by rw [List.length_map]; exact hown7))
                    have HB7 := hid hb7
                    clear hown7 hg7 hb7
                    go_wp2_with fail
                    go_roundw
                    case rel => exact ⟨i + n, ts ++ [⟨4, i, x⟩], by go_num, R, by rw [List.map_append]; exact HO8.out, HB7.out⟩
                    case measure => simp [intOf]; omega
                  --END SIGN2
            · have hnB : numB m = true := by rw [HNB.out, hd0]; rfl
              have hdB0 : digB l i = true := by rw [HDI2, hd0]
              rw [hdB0] at HDG
              clear hd0 hdB0 HDI2
              --BEGIN NUM1
              have hone := HON.out.2.1 hw1 hnB
              have hn1 := (one_pos hone).1
              have hx := HXC.out (numN m)
              have R0 := T2.out _ _ _ hone
              have R := hid R0
              clear hone R0
              rw [hw1] at HWD
              generalize m.take (numN m) = x at *
              generalize numN m = n at *

              go_wp2_with fail
              refine (HSP.out _).mono ?_
              rintro e w3 ⟨rfl, rfl⟩
              go_wp2_with fail
              refine (HWD.out _).mono ?_
              rintro e w4 ⟨rfl, hb4⟩
              have hz4 := hb4.size
              rw [hza] at hz4
              have p4 := HCE.out w4 hb4

              have d0 : w4.cell? ⟨wr.heap.size, 0, none⟩ = some (.int .i64 0) := by rw [Lib.cell_of_heap p4]; rfl
              have d1 : w4.cell? ⟨wr.heap.size, 1, none⟩ = some (.int .i64 i) := by rw [Lib.cell_of_heap p4]; rfl
              have d2 : w4.cell? ⟨wr.heap.size, 2, none⟩ = some (.string ⟨#[]⟩) := by rw [Lib.cell_of_heap p4]; rfl
              have ff0 := Lib.frozen_of_heap p4 0
              have ff2 := Lib.frozen_of_heap p4 2

              have hb4w : Below wr.heap.size wr w4 := HBA.out.trans (hb4.mono (by omega))
              have HBW := hid hb4w
              have HBF0 := hid (HBR.out.trans (hb4w.mono hzr))
              have HOF0 := hid (OwnL.later HOw.out hb4w)
              have P4 := hid p4
              clear hb4 hb4w p4

              go_wp2_with fail
              refine (HDG.out _).mono ?_
              rintro e w5 ⟨rfl, rfl⟩

              go_wp2_with fail
              refine (HNU.out _).mono ?_
              rintro e w6 ⟨rfl, rfl⟩

              have HOF1 : Hid (OwnL w2.heap.size (w4.setCell ⟨wr.heap.size, 0, none⟩ (.int .i64 2)) u6 (ts.map lz)) := hid (HOF0.out.set wr.heap.size 0 (.int .i64 2) HNE.out)
              have HOF : Hid (OwnL w2.heap.size ((w4.setCell ⟨wr.heap.size, 0, none⟩ (.int .i64 2)).setCell ⟨wr.heap.size, 2, none⟩ (.string (text x))) u6 (ts.map lz)) := hid (HOF1.out.set wr.heap.size 2 (.string (text x)) HNE.out)
              have HBF := hid ((HBF0.out.setCell (p := ⟨wr.heap.size, 0, none⟩) hzr (.int .i64 2)).setCell (p := ⟨wr.heap.size, 2, none⟩) hzr (.string (text x)))

              have HO7 : Hid ((((w4.setCell ⟨wr.heap.size, 0, none⟩ (.int .i64 2)).setCell ⟨wr.heap.size, 2, none⟩ (.string (text x))).alloc (.cells #[.int .i64 2, .int .i64 i, .string (text x)] 32)).ownsRow w2.heap.size 32 3 u6 (ts.map lz).length ((ts.map lz).flatMap lzCells)) := hid (OwnL.later HOF.out (ba (b0 ((w4.setCell ⟨wr.heap.size, 0, none⟩ (.int .i64 2)).setCell ⟨wr.heap.size, 2, none⟩ (.string (text x)))) _))
              have hrow := Row.ofBuild (sz := 3) ((w4.setCell ⟨wr.heap.size, 0, none⟩ (.int .i64 2)).setCell ⟨wr.heap.size, 2, none⟩ (.string (text x))) #[.int .i64 2, .int .i64 i, .string (text x)] 32 1 rfl (by omega)
              try simp only [World.size_setCell] at hrow
              have HRow := hid hrow
              clear hrow
              go_wp2_with (at_builtin; refine wpList_append_row rfl _ _ 23 rfl w2.heap.size 32 i0 _ 3 32 undLs hi hz0 hz1 hz2 rfl (by decide) _ _ _ rfl HO7.out _ 1 [.int .i64 2, .int .i64 i, .string (text x)] rfl HRow.out ?e40 ?e41 ?e42 ?e43 ?_)
              case e40 => first | exact ⟨rfl, rfl, rfl⟩ | (intro u hu; simp only [List.mem_cons, List.mem_nil_iff, or_false] at hu; rcases hu with rfl | rfl | rfl <;> rfl)
              case e41 => first | omega | (simp only [List.length_map]; omega)
              case e42 => first | (unfold maxLen; omega) | (simp only [List.length_map]; unfold maxLen; omega)
              case e43 => have := HBF.out.size; first | omega | (simp at this ⊢; omega)
              intro v7 w7 hown7 hg7
              have hb7 : Below w2.heap.size w2 w7 := (HBF.out.alloc HBF.out.size _).grown hg7 (by have := HBF.out.size; simp at this ⊢; omega) (fun k hk => (HO7.out.lt k hk).1)
              have HO8 := hid (OwnL.snoc (l := ts.map lz) (t := lz ⟨2, i, x⟩) (by rw [List.length_map]; exact hown7))
              have HB7 := hid hb7
              clear hown7 hg7 hb7
              go_wp2_with fail
              go_roundw
              case rel => exact ⟨i + n, ts ++ [⟨2, i, x⟩], by go_num, R, by rw [List.map_append]; exact HO8.out, HB7.out⟩
              case measure => simp [intOf]; omega
              --END NUM1
        · rw [hbt, hs] at hsp
          have HSP : Hid (∀ w, Calls Tryz.prog 19 #[.int .i64 (wrap64 ((((text l)[i]'hps).toNat : Nat) : Int))] w fun e w' => e = .returned (.bool true) ∧ w = w') := hid (fun w => by rw [hbt, IntWalk.wrap64_in _ (by omega)]; exact hsp w)
          have R := hid (B1.out hs)
          clear hsp hs hbt hdr
          go_wp2_with fail
          refine (HSP.out _).mono ?_
          rintro e w3 ⟨rfl, rfl⟩
          go_wp2_with fail
          go_roundw
          case rel => exact ⟨i + 1, ts, by go_num, R, HOw.out, HBR.out⟩
          case measure => simp [intOf]; omega
      · have R := hid (HD.out i ts HST.out hil)
        have HBR := hid hbr
        have HO7 : Hid ((wr.alloc (.cells #[.int .i64 5, .int .i64 l.length, .string ⟨#[]⟩] 32)).ownsRow w2.heap.size 32 3 u6 (ts.map lz).length ((ts.map lz).flatMap lzCells)) := hid (OwnL.later hOw (ba (b0 wr) _))
        have HRow := hid (Row.ofBuild (sz := 3) wr #[.int .i64 5, .int .i64 l.length, .string ⟨#[]⟩] 32 1 rfl (by omega))
        clear hbr hOw
        go_wp2_with (at_builtin; refine wpList_append_row rfl _ _ 23 rfl w2.heap.size 32 i0 _ 3 32 undLs hi hz0 hz1 hz2 rfl (by decide) _ _ _ rfl HO7.out _ 1 [.int .i64 5, .int .i64 l.length, .string ⟨#[]⟩] rfl HRow.out ?e0 ?e1 ?e2 ?e3 ?_)
        case e0 => first | exact ⟨rfl, rfl, rfl⟩ | (intro u hu; simp only [List.mem_cons, List.mem_nil_iff, or_false] at hu; rcases hu with rfl | rfl | rfl <;> rfl)
        case e1 => first | omega | (simp only [List.length_map]; omega)
        case e2 => first | (unfold maxLen; omega) | (simp only [List.length_map]; unfold maxLen; omega)
        case e3 => first | omega | (simp; omega)
        intro v7 w7 hown7 hg7
        have hb7 : Below w2.heap.size w2 w7 := (HBR.out.alloc hzr _).grown hg7 (by simp; omega) (fun k hk => (HO7.out.lt k hk).1)
        have HO8 := hid (OwnL.snoc (l := ts.map lz) (t := lz ⟨5, l.length, []⟩) (by rw [List.length_map]; exact hown7))
        have HB7 := hid hb7
        clear hown7 hg7 hb7
        go_wp2
        go_ret3
        refine ⟨?_, HB2.out.trans (HB7.out.mono hz2')⟩
        rw [HG.out, R.out]
        refine ⟨v7, rfl, ?_⟩
        rw [List.map_append]
        exact HO8.out.base hz2'
  · have hgl2 : ∀ e w', GotL w.heap.size l e w' = _ := fun e w' => (hgl e w').trans (if_neg hc)
    have HG := hid hgl2
    have hlt : ((check l : Nat) : Int) < (l.length : Int) := by omega
    clear hgl hgl2 hc
    generalize check l = n at *
    go_enter Tryz.func8, Tryz.ntmps8
    go_wp2_with fail
    refine HCK.out.mono ?_
    rintro e w2 ⟨rfl, hb2⟩
    go_wp2
    go_ret3
    exact ⟨by rw [HG.out]; rfl, bt HB1.out hb2⟩
end Go.Proofs.YtblpckeimdmpaaaGreatDoor.Fx
