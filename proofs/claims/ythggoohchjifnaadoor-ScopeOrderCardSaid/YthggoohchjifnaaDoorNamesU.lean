/- Layer 2: contracts of the document's own answers: Words, Right. -/
import Derived.Test.YthggoohchjifnaaDoorNamesQ
import Derived.Test.YthggoohchjifnaaDoorNamesT
import Derived.Test.YthggoohchjifnaaDoorNamesMath2
import Derived.Laws.Concat
set_option linter.unusedVariables false
set_option linter.unusedSimpArgs false
namespace Go.Proofs.YthggoohchjifnaaDoor.Names
open Go Go.Proofs.YthggoohchjifnaaDoor Go.Proofs.YthggoohchjifnaaDoor.Utf Go.RowKit
set_option maxRecDepth 100000

theorem infoS : (Tryd.prog.info? 9).map (fun i => (i.zero, i.size, i.bytes)) = some (some (.string ByteArray.empty), 1, 16) := by kernel_rfl

theorem text_cat {P : Program} (a b : List UInt8) (h : a.length + b.length ≤ 9223372036854775807) (t : TypeId) (W : World) : (binOp .add t (.string (text a)) (.string (text b))).run P W = .ok (.string (text (a ++ b))) W := by
  have h1 := run_string_add_sum (P := P) (w := W) (text a) (text b) (by rw [text_size, text_size]; exact h)
  rw [text_append] at h1
  simpa [binOp] using h1
theorem owns_first (w : World) : (w.alloc (.cells #[.string ⟨#[]⟩] 9)).ownsRow w.heap.size 9 1 (.slice (some ⟨w.heap.size, 0, none⟩) 1 1) 1 (strsOf [[]]) :=
  ⟨rfl, .inr ⟨w.heap.size, 1, #[.string ⟨#[]⟩], rfl, Nat.le_refl _, heap_alloc_new w _, Nat.le_refl _, (by unfold maxLen; omega), rfl, rfl⟩⟩

set_option maxHeartbeats 4000000 in
theorem RWords_any (l : List UInt8) (hl : l.length ≤ 100000) (w : World) :
    Calls Tryd.prog 23 #[.string (text l)] w fun e w' => ∃ v, e = .returned (.tuple #[v, .bool (wordsO l).isSome]) ∧ Strs w' v ((wordsO l).getD []) ∧ Below w.heap.size w w' := by
  obtain ⟨i0, hi, hz0, hz1, hz2⟩ := info_parts infoS
  have HSZ := hid (text_size l)
  have mixed : Tryd.prog.follows Departure.mixedOrders = true := by kernel_rfl
  go_enter Tryd.func23, Tryd.ntmps23
  go_wp2_with fail
  go_loopw [4, 5] (fun o i wr => ∃ k : Nat, i = .int .i64 k ∧ k ≤ l.length ∧ wr.ownsRow w.heap.size 9 1 o (cutAt 32 (l.take k)).length (strsOf (cutAt 32 (l.take k))) ∧ Below w.heap.size w wr) (fun _ i _ => l.length - (intOf i).toNat)
  case atStart =>
    exact ⟨0, rfl, by omega, owns_first w, ba (b0 w) _⟩
  case round =>
    obtain ⟨k, rfl, hk, ho, hbr⟩ := hrel
    by_cases hlt : k < l.length
    · have hps : k < (text l).size := by rw [HSZ.out]; exact hlt
      obtain ⟨x, hxk⟩ : ∃ x, l[k]? = some x := ⟨_, List.getElem?_eq_getElem hlt⟩
      have hid1 := text_at hxk hps
      have htk : l.take (k + 1) = l.take k ++ [x] := by rw [List.take_add_one, hxk]; rfl
      have hcl := cutAt_length 32 (l.take k)
      have hkl : (l.take k).length = k := by simp; omega
      rw [hkl] at hcl
      by_cases hx : x = 32
      · have hxx : ((((text l)[k]'hps).toNat : Int) == 32) = true := by rw [hid1, hx]; rfl
        rw [hx] at htk
        have hsn := cutAt_snoc_same 32 (l.take k)
        rw [← htk] at hsn
        have HS := hid hsn
        have HO := hid ho
        have HB := hid hbr
        clear hsn ho hbr htk hid1 hx hkl
        obtain ⟨n, hn⟩ : ∃ n, (cutAt 32 (l.take k)).length = n := ⟨_, rfl⟩
        rw [hn] at hcl
        have HN := hid hn
        clear hn
        go_wp2_with (at_builtin; refine wpList_append_row rfl _ _ 22 rfl w.heap.size 9 i0 (.string ByteArray.empty) 1 16 underS hi hz0 hz1 hz2 rfl (by decide) _ _ _ rfl (HO.out.alloc _) _ 1 [.string ⟨#[]⟩] rfl (Row.ofBuild wr #[.string ⟨#[]⟩] _ 1 rfl (by omega)) (strsOf_one [[]]) ?d1 ?d2 ?d3 ?_)
        case d1 => have := HN.out; omega
        case d2 => have := HN.out; unfold maxLen; omega
        case d3 => have := HB.out.size; simp; omega
        intro v3 w3 hown3 hg3
        have hb3 := grown_below (ba HB.out (.cells #[.string ⟨#[]⟩] 9)) (HO.out.alloc _) (Nat.le_refl _) hg3
        have HO3 := hid hown3
        have HB3 := hid hb3
        clear hown3 hg3 hb3
        go_wp2_with fail
        go_roundw
        case rel =>
          refine ⟨k + 1, by go_num, by omega, ?_, HB3.out⟩
          rw [HS.out, List.length_append, strsOf_append]; exact HO3.out
        case measure => simp [intOf]; omega
      · have hxx : ((((text l)[k]'hps).toNat : Int) == 32) = false := by
          rw [hid1, beq_eq_false_iff_ne]
          intro e
          exact hx (UInt8.toNat_inj.1 (by have : (32 : UInt8).toNat = 32 := rfl; omega))
        obtain ⟨ini, la, hil⟩ := last_split _ (cutAt_ne 32 (l.take k))
        have hsn := cutAt_snoc_other 32 x hx (l.take k) ini la hil
        rw [← htk] at hsn
        rw [hil] at ho
        have hnn : (ini ++ [la]).length = ini.length + 1 := by simp
        rw [hil, hnn] at hcl
        rw [hnn] at ho
        obtain ⟨b, ha, hc, hfr, hbb, hbs, hset⟩ := owns_at ho ini.length (by omega) 22 underS sizeS
        have hc2 := hc (.string (text la)) (by simp [strsOf])
        have hset2 := hset (.string (text (la ++ [x])))
        rw [← set_last] at hset2
        have hlen := fun W => (Strs.ofOwns (l := ini ++ [la]) (by rw [hnn]; exact ho) (by rw [hnn]; omega)).len (P := Tryd.prog) 22 3 9 underS W
        rw [hnn] at hlen
        have ex0 : (text l).extract k (k + 1) = text [x] := by
          rw [text_one l k hlt]
          rw [List.getElem?_eq_getElem hlt] at hxk
          rw [Option.some.inj hxk]
        have hla := cutAt_piece 32 (l.take k) la (by rw [hil]; simp)
        rw [hkl] at hla
        have hcs1 : (text la).size + (text [x]).size ≤ 9223372036854775807 := by rw [text_size, text_size]; simp; omega
        have hcs2 : ((text la).size : Int) + ((text [x]).size : Int) ≤ 9223372036854775807 := by omega
        have ex1 := text_append la [x]
        have h4 : (k : Int) + 1 ≤ ((text l).size : Int) := by omega
        have HS := hid hsn
        have HO := hid hset2
        have HB := hid hbr
        clear hsn ho hbr htk hid1 hx hkl hil hset hset2 hc hla
        go_wp2_with fail
        go_region_o
        go_wp2
        go_roundw
        case rel =>
          refine ⟨k + 1, by go_num, by omega, ?_, ?_⟩
          · have h1 := HO.out
            have h2 : (ini ++ [la ++ [x]]).length = ini.length + 1 := by simp
            rw [HS.out, h2]; exact h1
          · exact (HB.out.setCell (p := ⟨b, ini.length, none⟩) hbb _).drew
        case measure => simp [intOf]; omega
    · have hkl : l.take k = l := List.take_of_length_le (by omega)
      rw [hkl] at ho
      have hpl := cutAt_length 32 l
      have HP := hid (cutAt_piece 32 l)
      have HW := hid (show wordsO l = if (cutAt 32 l).all wordB then some (cutAt 32 l) else none from rfl)
      obtain ⟨ps, hps⟩ : ∃ ps, cutAt 32 l = ps := ⟨_, rfl⟩
      rw [hps] at ho hpl HP HW
      have hps2 : ¬ (k : Int) < ((text l).size : Int) := by rw [HSZ.out]; omega
      have hv := Strs.ofOwns ho (by omega)
      have hlen := fun W => hv.len (P := Tryd.prog) 22 3 9 underS W
      have HV := hid hv
      have HB := hid hbr
      clear ho hv hps hbr
      go_wp2_with fail
      go_loopw [6] (fun i wq => ∃ k : Nat, i = .int .i64 k ∧ k ≤ ps.length ∧ (ps.take k).all wordB = true ∧ Below wr.heap.size wr wq) (fun i _ => ps.length - (intOf i).toNat)
      case atStart => exact ⟨0, rfl, by omega, by simp, b0 _⟩
      case round =>
        obtain ⟨m, rfl, hm, hall, hbq⟩ := hrel
        have HA := hid hall
        clear hall
        by_cases hlt2 : m < ps.length
        · obtain ⟨b, o, ha, hc⟩ := (HV.out.below hbq (Nat.le_refl _)).at m hlt2 22 9 underS sizeS
          have hpm := HP.out ps[m] (List.getElem_mem hlt2)
          have hst : (ps.take (m + 1)).all wordB = (wordB ps[m]) := by rw [List.take_succ_eq_append_getElem hlt2, List.all_append, HA.out]; simp
          have hno : wordB ps[m] = false → ps.all wordB = false := fun h => by rw [List.all_eq_false]; exact ⟨ps[m], List.getElem_mem hlt2, by simp [h]⟩
          generalize ps[m] = p at *
          have hw := fun w => RWord_any p (by omega) w
          have HBQ := hid hbq
          cases hwp : wordB p
          · rw [hwp] at hw
            have HWD := hid hw
            have HN := hid (hno hwp)
            clear hw hno hst hwp hbq
            go_wp2_with (go_at_call 34; refine (HWD.out _).mono ?_; rintro e w2 ⟨rfl, hb2⟩)
            go_ret2
            have hr : wordsO l = none := by rw [HW.out, HN.out]; rfl
            refine ⟨_, by rw [hr]; rfl, ?_, bt HB.out (bt HBQ.out hb2)⟩
            rw [hr]
            exact Row.nil 1 _
          · rw [hwp] at hw hst
            have HWD := hid hw
            have HN := hid hst
            clear hw hno hst hwp hbq
            go_wp2_with (go_at_call 34; refine (HWD.out _).mono ?_; rintro e w2 ⟨rfl, hb2⟩)
            go_roundw
            case rel => exact ⟨m + 1, by go_num, by omega, HN.out, bt HBQ.out hb2⟩
            case measure => simp [intOf]; omega
        · have hmm : ps.take m = ps := List.take_of_length_le (by omega)
          rw [hmm] at HA
          have HBQ := hid hbq
          clear hmm hbq
          go_wp2
          go_ret2
          have hr : wordsO l = some ps := by rw [HW.out, HA.out]; rfl
          refine ⟨_, by rw [hr]; rfl, ?_, bt HB.out HBQ.out⟩
          rw [hr]
          exact HV.out.below HBQ.out (Nat.le_refl _)

end Go.Proofs.YthggoohchjifnaaDoor.Names
