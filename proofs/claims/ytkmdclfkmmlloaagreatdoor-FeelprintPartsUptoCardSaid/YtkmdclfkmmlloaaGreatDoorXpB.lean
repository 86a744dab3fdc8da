/- Layer 10: contracts of checkNames and form; a map that is a set of names. -/
import Derived.Test.YtkmdclfkmmlloaaGreatDoorXpK
import Derived.Test.YtkmdclfkmmlloaaGreatDoorXpR
import Derived.Test.YtkmdclfkmmlloaaGreatDoorXbN
set_option linter.unusedVariables false
set_option linter.unusedSimpArgs false
namespace Go.Proofs.YtkmdclfkmmlloaaGreatDoor.Xp
open Go Go.Proofs.YtkmdclfkmmlloaaGreatDoor Go.Proofs.YtkmdclfkmmlloaaGreatDoor.Utf Go.Proofs.YtkmdclfkmmlloaaGreatDoor.Names Go.RowKit
set_option maxRecDepth 100000

theorem undSet : Tryz.prog.underlying 54 = some (.map 9 4) := Tryz.underlying54
theorem undBool : Tryz.prog.underlying 4 = some .bool := Tryz.underlying4
theorem zeroB (w : World) : (zeroValue 4).run Tryz.prog w = .ok (.bool false) w := by kernel_rfl
/-- The block holds these names. -/
def SetAt (w : World) (b : Nat) (F : List Nam) (n : Nat) : Prop :=
  ∃ D : DataW Unit, w.ownsMap Tryz.prog 9 (plainElem (H := Unit) Tryz.prog 4) b n D ∧ ∀ x : Nam, Maps.has D (.string x) = decide (x ∈ F) ∧ D.atKey (.string x) (.lit (.bool false)) = .lit (.bool (decide (x ∈ F)))
section
variable {w w' : World} {b n : Nat} {F : List Nam}
theorem SetAt.lt (h : SetAt w b F n) : b < w.heap.size := by obtain ⟨D, h, _⟩ := h; exact h.lt
theorem SetAt.keep {A : Nat → Prop} (h : SetAt w b F n) (hk : Keep A w w') (hb : ¬ A b) : SetAt w' b F n := by
  obtain ⟨D, ⟨es, clock, h1, r⟩, h2⟩ := h
  exact ⟨D, ⟨es, clock, hk.cell h1 hb, r⟩, h2⟩
theorem SetAt.mono {m : Nat} (h : SetAt w b F n) (hm : n ≤ m) : SetAt w b F m := by obtain ⟨D, h1, h2⟩ := h; exact ⟨D, h1.mono hm, h2⟩
theorem SetAt.made (w : World) : SetAt (w.alloc (.map #[] 0)) w.heap.size [] 0 := by
  have := World.ownsMap_made (H := Unit) w Tryz.prog 9 (plainElem (H := Unit) Tryz.prog 4)
  exact ⟨_, this, fun x => ⟨rfl, rfl⟩⟩
theorem SetAt.look (h : SetAt w b F n) (x : Nam) (hx : x.length ≤ 2000000) :
    (Instr.lookup 54 (.map (some b)) (.string (text x)) false).run Tryz.prog w = .ok (.bool (decide (x ∈ F))) w := by
  obtain ⟨D, h1, h2⟩ := h
  obtain ⟨u, ps, hrun, hv⟩ := World.ownsMap.lookup h1 (Maps.string_keyed undStr) undSet (zeroB w) (plainElem_bool undBool false) (key_of x hx)
  rw [(h2 x).2] at hv
  rw [hrun, plainElem_bool_inv undBool hv]
theorem SetAt.plus (h : SetAt w b F n) (hn : n < 281474976710656) (x : Nam) (hx : x.length ≤ 2000000) :
    ∃ w', (Instr.mapUpdate 54 (.map (some b)) (.string (text x)) (.bool true)).run Tryz.prog w = .ok () w' ∧ SetAt w' b (x :: F) (n + 1) ∧ w.grownBy w' (some b) := by
  obtain ⟨D, h1, h3⟩ := h
  obtain ⟨w1, hrun, own1, hg1⟩ := h1.update (Maps.string_keyed undStr) undSet (by unfold maxLen; omega) (key_of x hx) (plainElem_bool (H := Unit) undBool true)
  refine ⟨w1, hrun, ⟨_, own1, fun y => ?_⟩, hg1⟩
  by_cases e : y = x
  · subst e
    rw [Maps.has_put_same h1.isMap (isKey y), Maps.atKey_put_same h1.isMap (isKey y)]
    simp
  · rw [Maps.has_put_other (str_ne e), Maps.atKey_put_other (str_ne e), (h3 y).1, (h3 y).2]
    simp [e]
end
theorem run_makeMap_hint (n : Int) (w : World) : (Instr.makeMap 54 (some (.int .i64 n))).run Tryz.prog w = .ok (.map (some w.heap.size)) (w.alloc (.map #[] 0)) := by
  simp [Instr.makeMap, run_underlying undSet, asInt, asIntOf, Result.andThen]
theorem dup_take {nm : List Nam} {i : Nat} (hi : i < nm.length) (h : nm[i] ∈ nm.take i) : ¬ nm.Nodup := by
  intro hn
  have e : nm.take i ++ nm.drop i = nm := List.take_append_drop i nm
  rw [← e] at hn
  have h2 : nm[i] ∈ nm.drop i := List.mem_drop_iff_getElem.2 ⟨0, by omega, by simp⟩
  exact (List.nodup_append.1 hn).2.2 _ h _ h2 rfl
theorem nodup_take {nm : List Nam} {i : Nat} (hi : i < nm.length) (h : (nm.take i).Nodup) (hn : nm[i] ∉ nm.take i) : (nm.take (i + 1)).Nodup := by
  rw [List.take_succ_eq_append_getElem hi]
  refine List.nodup_append.2 ⟨h, by simp, fun a ha b hb e => ?_⟩
  rw [List.mem_singleton] at hb
  exact hn (by rw [← hb, ← e]; exact ha)
set_option maxHeartbeats 4000000 in
theorem checkNames_any (v : Value) (nm : List Nam) (w : World) (hv : Strs w v nm) (hx : ∀ x ∈ nm, x.length ≤ 2000000) (hl : nm.length ≤ 2000000) :
    Calls Tryz.prog 133 #[v] w fun e w' => e = .returned (.int .i64 (namesE nm)) ∧ Below w.heap.size w w' := by
  have hlen := fun W => hv.len (P := Tryz.prog) 22 3 9 undS W
  obtain ⟨r, hr⟩ : ∃ r, namesE nm = r := ⟨_, rfl⟩
  rw [hr]
  have HRR := hid hr
  have HV := hid hv
  have HX := hid hx
  have hmm := run_makeMap_hint nm.length
  clear hv hx hr
  go_enter Tryz.func133, Tryz.ntmps133
  go_wp2_with fail
  go_loopg [11, 4, 5] nm.length (fun gk iv _ _ X => ∃ i : Nat, iv = .int .i64 i ∧ i + gk = nm.length ∧ Hid ((nm.take i).all rightB = true) ∧ Hid (Below w.heap.size w X))
  case atStart => exact ⟨0, rfl, by omega, hid (by simp), hid (b0 w)⟩
  case round =>
    rename World => X
    obtain ⟨i, rfl, hg, HA, HB⟩ := hrel
    by_cases hi : i < nm.length
    · obtain ⟨sb, so, hix, hcl⟩ := (HV.out.below HB.out (Nat.le_refl _)).at (P := Tryz.prog) i hi 22 9 undS sizS
      have hix' := hix .i64
      have HN := hid (fun X => name_any nm[i] (HX.out _ (List.getElem_mem hi)) X)
      have HT := hid (List.take_succ_eq_append_getElem hi)
      have HM := hid (List.getElem_mem hi)
      generalize nm[i] = x at *
      clear hix
      cases hrx : rightB x with
      | true =>
        have HRX := hid hrx
        simp only [hrx, if_true] at HN
        clear hrx
        go_wp2_with fail
        refine (HN.out _).mono ?_
        rintro e w1 ⟨rfl, hb⟩
        have HB1 := hid (HB.out.trans (hb.mono HB.out.size))
        clear hb hcl
        go_wp2
        go_roundg (gk - 1)
        case measure => omega
        case rel => exact ⟨i + 1, by go_num, by omega, hid (by rw [HT.out, List.all_append, HA.out]; simp [HRX.out]), HB1⟩
      | false =>
        have HR6 := hid (show r = 6 by
          rw [← HRR.out]; unfold namesE
          rw [if_pos (List.all_eq_false.2 ⟨x, HM.out, by simp [hrx]⟩)])
        simp only [hrx] at HN
        clear hrx
        go_wp2_with fail
        refine (HN.out _).mono ?_
        rintro e w1 ⟨rfl, hb⟩
        have HB1 := hid (HB.out.trans (hb.mono HB.out.size))
        clear hb hcl
        go_wp2
        go_ret
        rw [HR6.out]
        exact ⟨rfl, HB1.out⟩
    · have hil : i = nm.length := by omega
      subst hil
      have HALL := hid (show nm.all rightB = true by have := HA.out; rwa [List.take_length] at this)
      go_wp2_with fail
      go_loopg [26, 8] nm.length (fun gk iv _ Y => ∃ j : Nat, iv = .int .i64 j ∧ j + gk = nm.length ∧ Hid ((nm.take j).Nodup) ∧ Hid (SetAt Y X.heap.size (nm.take j) j) ∧ Hid (Below w.heap.size w Y) ∧ Hid (Below X.heap.size X Y))
      case atStart => exact ⟨0, rfl, by omega, hid (by simp), hid (by simpa using SetAt.made X), hid (HB.out.alloc HB.out.size _), hid (ba (b0 X) _)⟩
      case round =>
        rename World => Y
        obtain ⟨j, rfl, hjg, HD, HS, HBY, HXY⟩ := hrel
        by_cases hj : j < nm.length
        · obtain ⟨sb, so, hix, hcl⟩ := (HV.out.below HBY.out (Nat.le_refl _)).at (P := Tryz.prog) j hj 22 9 undS sizS
          have hix' := hix .i64
          have hxl := HX.out _ (List.getElem_mem hj)
          have lk := HS.out.look nm[j] hxl
          obtain ⟨w2, hup, hs2, hg2⟩ := HS.out.plus (by omega) nm[j] hxl
          have HND := hid (fun h => nodup_take hj HD.out h)
          have HDU := hid (fun h => dup_take hj h)
          have HT := hid (List.take_succ_eq_append_getElem hj)
          have HS2 := hid hs2
          have HG2 := hid hg2
          generalize nm[j] = x at *
          clear hix hs2 hg2 hxl
          by_cases hm : x ∈ nm.take j
          · have HR8 := hid (show r = 8 by
              rw [← HRR.out]; unfold namesE
              rw [if_neg (by rw [HALL.out]; simp), if_neg (HDU.out hm)])
            rw [decide_eq_true hm] at lk
            clear hm hup
            go_wp2
            go_ret
            rw [HR8.out]
            exact ⟨rfl, HBY.out⟩
          · have HN2 := hid (HND.out hm)
            rw [decide_eq_false hm] at lk
            clear hm
            have HX2 := hid (HXY.out.grown HG2.out HXY.out.size (fun k e => by injection e with e; omega))
            have HB2 := hid (HBY.out.grown HG2.out HBY.out.size (fun k e => by injection e with e; have := HB.out.size; omega))
            go_wp2
            go_roundg (gk - 1)
            case measure => omega
            case rel =>
              refine ⟨j + 1, by go_num, by omega, HN2, hid ?_, HB2, HX2⟩
              obtain ⟨D, h1, h2⟩ := HS2.out
              exact ⟨D, h1, fun y => by rw [HT.out]; have := h2 y; simpa [or_comm] using this⟩
        · have hjl : j = nm.length := by omega
          subst hjl
          have HR0 := hid (show r = 0 by
              have := HD.out
              rw [List.take_length] at this
              rw [← HRR.out]; unfold namesE
              rw [if_neg (by rw [HALL.out]; simp), if_pos this])
          go_wp2
          go_ret
          rw [HR0.out]
          exact ⟨rfl, HBY.out⟩
theorem prefix_any (s : Nam) (w : World) : Calls Tryz.prog 70 #[.string (text s), .string ⟨#[48, 46]⟩] w fun e w' => e = .returned (.bool (decide (s.take 2 = [48, 46]))) ∧ w' = w := by
  have h := Tryz.strings_HasPrefix (text s) (text [48, 46]) w
  rw [text_data, text_data] at h
  have e : Lib.hasPrefix s [48, 46] = decide (s.take 2 = [48, 46]) := by
    unfold Lib.hasPrefix
    match s with
    | [] => rfl
    | [a] => simp [List.isPrefixOf]
    | a :: b :: r =>
      rw [Bool.eq_iff_iff]
      simp [List.isPrefixOf]
      constructor
      · rintro ⟨h1, h2⟩; exact ⟨h1.symm, h2.symm⟩
      · rintro ⟨h1, h2⟩; exact ⟨h1.symm, h2.symm⟩
  rw [e] at h
  exact h
theorem readV_len (q : Nam) : (Num.readV q).1.length ≤ q.length + 1 := by
  unfold Num.readV
  split
  · have h1 := Num.whole_len q
    have h2 := Num.part_len q
    have h3 := Num.point_le q
    by_cases e : Num.whole q ++ Num.part q = []
    · rw [e]
      rw [Num.canon_zero rfl]
      simp
    · have := (Num.canon_len (Num.whole q ++ Num.part q) (Num.part q).length e).1
      rw [List.length_append] at this
      omega
  · simp
set_option maxHeartbeats 4000000 in
theorem form_any (s : Nam) (hs : s.length ≤ 2000000) (w : World) (hw : Num.Fit w) : Calls Tryz.prog 91 #[.string (text s)] w fun e w' => e = .returned (.int .i64 (if formB s then 0 else 17)) ∧ Below w.heap.size w w' := by
  obtain ⟨r, hr⟩ : ∃ r : Int, (if formB s then 0 else 17) = r := ⟨_, rfl⟩
  rw [hr]
  have HRR := hid hr
  have HP := hid (prefix_any s w)
  obtain ⟨q, hq⟩ : ∃ q, (if s.take 2 = [48, 46] then s.drop 1 else s) = q := ⟨_, rfl⟩
  have hql : q.length ≤ 2000000 := by
    rw [← hq]
    split
    · rw [List.length_drop]; omega
    · exact hs
  have HFB := hid (show (if decide (Num.readE q = 0 ∧ textN (Num.readV q) = s) = true then (0 : Int) else 17) = r from by rw [← hr, ← hq]; rfl)
  have HDL := hid (readV_len q)
  obtain ⟨ne, hne⟩ : ∃ ne, Num.readE q = ne := ⟨_, rfl⟩
  obtain ⟨⟨d, z⟩, hv⟩ : ∃ v, Num.readV q = v := ⟨_, rfl⟩
  have HRD := Num.Read_any q (by omega) w hw
  rw [show Num.ReadA q = .tuple #[.agg #[.string (text d), .int .i64 (z : Int)], .int .i64 (ne : Int)] from by unfold Num.ReadA; rw [hne, hv]; rfl] at HRD
  replace HRD := hid HRD
  rw [hne, hv] at HFB
  rw [hv] at HDL
  clear hne hv
  have HW := hid hw
  have HQ := hid hq
  have HQL := hid hql
  have HUN := hid (fun a w => unless_any a 17 w)
  have hcut : (text s).extract 1 s.length = text (s.drop 1) := by have := text_extract s 1; rwa [text_size] at this
  have hsz := text_size s
  have HS := hid hs
  clear hr hw hs
  by_cases hp : s.take 2 = [48, 46]
  · have hq2 : s.drop 1 = q := by rw [← hq, if_pos hp]
    have hs1 : 1 ≤ s.length := by
      have := congrArg List.length hp
      simp at this
      omega
    rw [hq2] at hcut
    rw [decide_eq_true hp] at HP
    clear hp hq hq2 hql
    go_enter Tryz.func91, Tryz.ntmps91
    go_wp2_with fail
    refine HP.out.mono ?_
    rintro e w1 ⟨rfl, rfl⟩
    go_wp2_with fail
    refine HRD.out.mono ?_
    rintro e w1 ⟨rfl, hb1⟩
    have HB1 := hid hb1
    have HW1 := hid (HW.out.at hb1)
    clear hb1
    by_cases h0 : ne = 0
    · subst h0
      have TX := hid (fun X (hX : Below w1.heap.size w1 X) => Num.Text_any d z (by have := HDL.out; have := HQL.out; simp at *; omega) X (HW1.out.at hX))
      obtain ⟨tx, htx⟩ : ∃ tx, textN (d, z) = tx := ⟨_, rfl⟩
      rw [htx] at HFB
      have HTA := hid (show Num.TextA d z = .tuple #[.string (text tx), .int .i64 (Num.checkE d z)] from by rw [← htx]; rfl)
      have HU := hid (show ∀ w, Calls Tryz.prog 129 #[.bool ((text tx).toList == (text s).toList), .int .i64 17] w fun e w' => e = .returned (.int .i64 r) ∧ w' = w from fun w => by
        have := HUN.out ((text tx).toList == (text s).toList) w
        rw [Sc.teq] at this ⊢
        rw [show (if decide (tx = s) = true then (0 : Int) else 17) = r from by have := HFB.out; simpa using this] at this
        exact this)
      unfold Num.numZ at TX
      clear htx
      go_wp2_with fail
      refine (TX.out _ (ba (b0 w1) _)).mono ?_
      rw [HTA.out]
      rintro e w2 ⟨rfl, hb2⟩
      have HB2 := hid ((ba HB1.out (.cells #[.string (text d), .int .i64 z] 129)).trans (hb2.mono (by have := HB1.out.size; simp; omega)))
      clear hb2
      go_wp2_with fail
      refine (HU.out _).mono ?_
      rintro e w3 ⟨rfl, rfl⟩
      go_wp2
      go_ret
      exact ⟨rfl, HB2.out⟩
    · have HR17 := hid (show r = 17 from by have := HFB.out; simp [h0] at this; exact this.symm)
      have h0i : ¬ (ne : Int) = 0 := by omega
      clear h0
      go_wp2
      go_ret
      rw [HR17.out]
      exact ⟨rfl, ba HB1.out _⟩
  · have hq2 : s = q := by rw [← hq, if_neg hp]
    rw [decide_eq_false hp] at HP
    have HSQ := hid hq2
    rw [hq2] at HP HRR HFB hcut hsz ⊢
    clear hp hq hq2 hql
    go_enter Tryz.func91, Tryz.ntmps91
    go_wp2_with fail
    refine HP.out.mono ?_
    rintro e w1 ⟨rfl, rfl⟩
    go_wp2_with fail
    refine HRD.out.mono ?_
    rintro e w1 ⟨rfl, hb1⟩
    have HB1 := hid hb1
    have HW1 := hid (HW.out.at hb1)
    clear hb1
    by_cases h0 : ne = 0
    · subst h0
      have TX := hid (fun X (hX : Below w1.heap.size w1 X) => Num.Text_any d z (by have := HDL.out; have := HQL.out; simp at *; omega) X (HW1.out.at hX))
      obtain ⟨tx, htx⟩ : ∃ tx, textN (d, z) = tx := ⟨_, rfl⟩
      rw [htx] at HFB
      have HTA := hid (show Num.TextA d z = .tuple #[.string (text tx), .int .i64 (Num.checkE d z)] from by rw [← htx]; rfl)
      have HU := hid (show ∀ w, Calls Tryz.prog 129 #[.bool ((text tx).toList == (text q).toList), .int .i64 17] w fun e w' => e = .returned (.int .i64 r) ∧ w' = w from fun w => by
        have := HUN.out ((text tx).toList == (text q).toList) w
        rw [Sc.teq] at this ⊢
        rw [show (if decide (tx = q) = true then (0 : Int) else 17) = r from by have := HFB.out; simpa using this] at this
        exact this)
      unfold Num.numZ at TX
      clear htx
      go_wp2_with fail
      refine (TX.out _ (ba (b0 w1) _)).mono ?_
      rw [HTA.out]
      rintro e w2 ⟨rfl, hb2⟩
      have HB2 := hid ((ba HB1.out (.cells #[.string (text d), .int .i64 z] 129)).trans (hb2.mono (by have := HB1.out.size; simp; omega)))
      clear hb2
      go_wp2_with fail
      refine (HU.out _).mono ?_
      rintro e w3 ⟨rfl, rfl⟩
      go_wp2
      go_ret
      exact ⟨rfl, HB2.out⟩
    · have HR17 := hid (show r = 17 from by have := HFB.out; simp [h0] at this; exact this.symm)
      have h0i : ¬ (ne : Int) = 0 := by omega
      clear h0
      go_wp2
      go_ret
      rw [HR17.out]
      exact ⟨rfl, ba HB1.out _⟩
end Go.Proofs.YtkmdclfkmmlloaaGreatDoor.Xp
