/- Layer 10: the document's among, Within. -/
import Derived.Test.YtlhhjocfbafoeaaGreatDoorXpG
import Derived.Test.YtlhhjocfbafoeaaGreatDoorXpU
import Derived.Deep.CutBlock
import Derived.Deep.RegionLaw
set_option linter.unusedVariables false
set_option linter.unusedSimpArgs false
namespace Go.Proofs.YtlhhjocfbafoeaaGreatDoor.Xp
open Go Go.Proofs.YtlhhjocfbafoeaaGreatDoor Go.Proofs.YtlhhjocfbafoeaaGreatDoor.Utf Go.Proofs.YtlhhjocfbafoeaaGreatDoor.Names Go.Proofs.YtlhhjocfbafoeaaGreatDoor.Sc Go.RowKit
set_option maxRecDepth 100000
set_option maxHeartbeats 1000000 in
theorem Among_any (v : Value) (l : List (List UInt8)) (x : List UInt8) (w : World) (hv : Strs w v l) :
    Calls Tryz.prog 36 #[.string (text x), v] w fun e w' => e = .returned (.bool (decide (x ∈ l))) ∧ w' = w := by
  have hle := hv.le
  have hlen := fun W => hv.len (P := Tryz.prog) 22 3 9 Tryz.underlying22 W
  have V := hid hv
  obtain ⟨m, hm⟩ : ∃ m, decide (x ∈ l) = m := ⟨_, rfl⟩
  rw [hm]
  have HM := hid hm
  clear hv hm
  go_enter Tryz.func36, Tryz.ntmps36
  go_wp2
  go_loopg [5] l.length (fun kx s5 wr => ∃ i : Nat, s5 = .int .i64 i ∧ i ≤ l.length ∧ l.length - i ≤ kx ∧ w = wr ∧ Hid (x ∉ l.take i))
  case atStart => exact ⟨0, rfl, Nat.zero_le _, by omega, rfl, hid (by simp)⟩
  case round =>
    obtain ⟨i, rfl, hi, hg, rfl, I⟩ := hrel
    by_cases hil : i < l.length
    · obtain ⟨b, o, hix, hcl⟩ := V.out.at (P := Tryz.prog) i hil 22 9 undS sizS
      have hq := teq l[i] x
      by_cases he : l[i] = x
      · rw [decide_eq_true he] at hq
        have hmm : m = true := by rw [← HM.out]; exact decide_eq_true (he ▸ List.getElem_mem hil)
        subst hmm
        clear he
        generalize text l[i] = ty at *
        go_wp2
        go_ret
        exact ⟨rfl, rfl⟩
      · rw [decide_eq_false he] at hq
        have HE := hid he
        clear he
        generalize text l[i] = ty at *
        go_wp2
        go_roundg (l.length - (i + 1))
        case measure => omega
        case rel =>
          refine ⟨i + 1, by go_num, by omega, Nat.le_refl _, rfl, hid ?_⟩
          rw [List.take_succ_eq_append_getElem hil]
          intro h
          rcases List.mem_append.1 h with h | h
          · exact I.out h
          · simp at h; exact HE.out h.symm
    · have hmm : m = false := by
        rw [← HM.out]
        have := I.out
        rw [List.take_of_length_le (by omega)] at this
        exact decide_eq_false this
      subst hmm
      clear I
      go_wp2
      go_ret
      exact ⟨rfl, rfl⟩
theorem step_append_row {P : Program} {w : World} {ops : Array Oper} {o : Oper} {a : Go.Act} {K : Go.Act → World → Prop} {Q : Exit → Go.Act → World → Prop} {E : Prop} (hgd : o.guard = none) (s x : Operand) (t : TypeId)
    (ho : o.op = .call { callee := .builtin .append, args := #[s, x], argTypes := #[t, t] })
    (base : Nat) (e : TypeId) (i : TypeInfo) (z : Value) (size bytes : Nat) (ht : P.underlying t = some (.slice e)) (hi : P.info? e = some i) (hz : i.zero = some z)
    (hsize : i.size = size) (hby : i.bytes = bytes) (hzs : z.cells.size = size) (hsz : 0 < size)
    (v : Value) (n : Nat) (xs : List Value) (hs : a.eval s = v) (hown : w.ownsRow base e size v n xs) (xv : Value) (m : Nat) (news : List Value) (hx : a.eval x = xv) (hrow : Row size w xv m news) (h1 : ∀ u ∈ news, u.oneCell' = true)
    (hbytes : (n + m) * bytes ≤ 140737488355328) (h63 : n + m ≤ maxLen) (hbase : base ≤ w.heap.size)
    (h : ∀ v' w', w'.ownsRow base e size v' (n + m) (xs ++ news) → w.grownBy w' v.ownBlock → K (a.put o.dst v') w') :
    if Region.wanted o (yielded ops a.tmps) = true then Oper.wp P o a w K Q else E := by
  have hw : Region.wanted o (yielded ops a.tmps) = true := by simp [Region.wanted, hgd]
  rw [if_pos hw]
  obtain ⟨v', w', hrun, h2, h3⟩ := run_append_row (P := P) (w := w) base t o.type e i z size bytes ht hi hz hsize hby hzs hsz v n xs hown xv m news hrow h1 hbytes h63 hbase
  unfold Oper.wp execOp
  simp only [ho, resolve, invoke, builtin, Sem.run_bind, Sem.run_pure, Result.andThen_ok, List.map_toArray, List.map_cons, List.map_nil, hs, hx, hrun]
  exact h v' w' h2 h3
theorem mor_len (k : Int) (s : Nam) (nm : List Nam) (i : Nat) : (mor k s nm i).length ≤ nm.length + 1 := by
  unfold mor
  split
  · split <;> simp
  · split
    · split <;> simp
    · split
      · omega
      · split
        · rw [List.length_take]; omega
        · simp
theorem addL_len : ∀ (more l : List Nam), (addL more l).length ≤ l.length + more.length
  | [], l => by simp [addL]
  | x :: more, l => by
    rw [addL_cons, List.length_cons]
    split
    · have := addL_len more l; omega
    · have := addL_len more (l ++ [x])
      rw [List.length_append, List.length_singleton] at this; omega
theorem addL_take (more l : List Nam) (i : Nat) (h : i < more.length) : addL (more.take (i + 1)) l = if more[i] ∈ addL (more.take i) l then addL (more.take i) l else addL (more.take i) l ++ [more[i]] := by
  rw [List.take_succ_eq_append_getElem h]
  unfold addL
  rw [List.foldl_append]
  rfl
set_option maxHeartbeats 8000000 in
theorem Within_any (e : Ex) (ao : Option Addr) (an ac : Nat) (po : Option Addr) (pn pc : Nat) (w : World) (i : Nat) (vo : Option Addr) (vn vc : Nat) (M : List Nam) (h : IsE w e (.slice ao an ac) (.slice po pn pc)) (hv : Strs w (.slice vo vn vc) M)
    (hi : e.kind = 17 → i ≤ e.nm.length) (hi2 : i ≤ 100000000) (hm : M.length ≤ 100000000) (hn : e.nm.length ≤ 100000000) :
    Calls Tryz.prog 26 #[exV e (.slice ao an ac) (.slice po pn pc), .int .i64 i, .slice vo vn vc] w fun r w' => ∃ ro rn rc, r = .returned (.slice ro rn rc) ∧ Strs w' (.slice ro rn rc) (wth e.kind e.s e.nm i M) ∧ Below w.heap.size w w' := by
  obtain ⟨k, s, nm, l⟩ := e
  obtain ⟨ha, _⟩ := h.parts
  simp only [Ex.nm, Ex.kind, Ex.s] at ha hi hn ⊢
  have B1 := ba (b0 w) (.cells #[.int .i64 k, .string (text s), .slice ao an ac, .slice po pn pc] 25)
  have P1 := heap_alloc_new w (.cells #[.int .i64 k, .string (text s), .slice ao an ac, .slice po pn pc] 25)
  have ha1 := ha.below B1 (Nat.le_refl _)
  have alen := fun X => ha.len (P := Tryz.prog) 22 3 9 undS X
  obtain ⟨V, hV⟩ : ∃ V, w.alloc (.cells #[.int .i64 k, .string (text s), .slice ao an ac, .slice po pn pc] 25) = V := ⟨_, rfl⟩
  rw [hV] at B1 P1 ha1
  have HA := hid ha1
  have HB := hid B1
  have HV := hid hv
  have HM := hid hm
  unfold exV
  simp only [Ex.kind, Ex.s]
  have a0 : V.cell? ⟨w.heap.size, 0, none⟩ = some (.int .i64 k) := by rw [Lib.cell_of_heap P1]; rfl
  have a1 : V.cell? ⟨w.heap.size, 1, none⟩ = some (.string (text s)) := by rw [Lib.cell_of_heap P1]; rfl
  have a2 : V.cell? ⟨w.heap.size, 2, none⟩ = some (.slice ao an ac) := by rw [Lib.cell_of_heap P1]; rfl
  clear h ha B1 P1 ha1 hv
  go_enter Tryz.func26, Tryz.ntmps26
  go_upto_block 0 with fail
  go_cut [7] from 10 to 35 (fun u X => ∃ uo un uc, u = .slice uo un uc ∧ Hid (Strs X (.slice uo un uc) (mor k s nm i)) ∧ Hid (Below V.heap.size V X))
  case first =>
    clear hV
    obtain ⟨sl, hsl, hsl2⟩ : ∃ sl : Value, (k = 17 → ∀ X, (Instr.slice 22 (.slice ao an ac) none (some (.int .i64 i)) none).run Tryz.prog X = .ok sl X) ∧ (k = 17 → ∃ uo un uc, sl = .slice uo un uc ∧ Strs V (.slice uo un uc) (nm.take i)) := by
      by_cases h17 : k = 17
      · have hle := hi h17
        obtain ⟨v', _, _, hrun, hrow⟩ := Row.sub (P := Tryz.prog) HA.out 0 i (Nat.zero_le _) hle 22 9 undS sizS
        refine ⟨v', fun _ X => hrun rfl .i64 X, fun _ => ?_⟩
        have hst : Strs V v' (nm.take i) := by
          unfold Strs
          rw [List.length_take, Nat.min_eq_left hle]
          have e : ((strsOf nm).drop (0 * 1)).take ((i - 0) * 1) = strsOf (nm.take i) := by simp [strsOf, List.map_take]
          rw [e] at hrow
          exact hrow
        obtain ⟨uo, un, uc, rfl⟩ := Strs.form hst
        exact ⟨uo, un, uc, rfl, hst⟩
      · exact ⟨.slice none 0 0, fun h => absurd h h17, fun h => absurd h h17⟩
    have HSL2 := hid hsl2
    have hmor : Hid (mor k s nm i = if k = 12 ∨ k = 13 ∨ k = 14 then (if i = 1 then [s] else []) else if k = 9 then (if i = 1 then [item] else []) else if k = 15 then nm else if k = 17 then nm.take i else []) := hid rfl
    clear hsl2
    by_cases h17 : k = 17
    · have hsl' := hsl h17
      subst h17
      clear hsl
      obtain ⟨uo, un, uc, rfl, hst⟩ := HSL2.out rfl
      have HST := hid hst
      clear hst
      go_wp2
      go_meet
      exact ⟨uo, un, uc, rfl, hid (by rw [hmor.out]; exact HST.out), hid (b0 V)⟩
    · have b17 : (k == 17) = false := by rw [beq_eq_false_iff_ne]; exact h17
      clear hsl
      go_wp2
      all_goals go_meet
      all_goals simp only [beq_iff_eq, beq_eq_false_iff_ne] at *
      all_goals first
        | exact ⟨_, _, _, rfl, hid (by rw [hmor.out, if_pos (by omega), if_pos (by omega)]; exact Row.ofBuild (sz := 1) V #[.string (text s)] 9 1 rfl (by omega)), hid (ba (b0 V) _)⟩
        | exact ⟨_, _, _, rfl, hid (by rw [hmor.out, if_pos (by omega), if_neg (by omega)]; exact Row.nil 1 V), hid (b0 V)⟩
        | exact ⟨_, _, _, rfl, hid (by rw [hmor.out, if_neg (by omega), if_pos (by omega), if_pos (by omega)]; exact Row.ofBuild (sz := 1) V #[.string (text item)] 9 1 rfl (by omega)), hid (ba (b0 V) _)⟩
        | exact ⟨_, _, _, rfl, hid (by rw [hmor.out, if_neg (by omega), if_pos (by omega), if_neg (by omega)]; exact Row.nil 1 V), hid (b0 V)⟩
        | exact ⟨_, _, _, rfl, hid (by rw [hmor.out, if_neg (by omega), if_neg (by omega), if_pos (by omega)]; exact HA.out), hid (b0 V)⟩
        | exact ⟨_, _, _, rfl, hid (by rw [hmor.out, if_neg (by omega), if_neg (by omega), if_neg (by omega), if_neg (by omega)]; exact Row.nil 1 V), hid (b0 V)⟩
  case rest =>
    obtain ⟨uo, un, uc, rfl, HU, HX⟩ := hcut
    clear hV a0 a1 a2 alen HA
    have hlen := mor_len k s nm i
    have ulen := fun X => HU.out.len (P := Tryz.prog) 22 3 9 undS X
    have hw0 : Hid (wth k s nm i M = addL (mor k s nm i) M) := hid rfl
    have HV1 := hid ((HV.out.below HB.out (Nat.le_refl _)).below HX.out (Nat.le_refl _))
    have HWC := hid (bt HB.out HX.out)
    obtain ⟨D, hD⟩ : ∃ D, mor k s nm i = D := ⟨_, rfl⟩
    rw [hD] at HU ulen hlen hw0
    clear hD hi hi2 HV HX HB
    obtain ⟨i0, hI, hz0, hz1, hz2⟩ := info_parts infoS
    have HI := hid hI
    clear hI
    go_wp2_with fail
    go_loopg [9, 8] D.length (fun gk jv ov X => ∃ (j : Nat) (oo : Option Addr) (on oc : Nat), jv = .int .i64 j ∧ ov = .slice oo on oc ∧ j + gk = D.length ∧ Hid (Below wc.heap.size wc X) ∧ Hid (Strs X (.slice oo on oc) (addL (D.take j) M)))
    case atStart => exact ⟨0, vo, vn, vc, rfl, rfl, by omega, hid (b0 wc), HV1⟩
    case round =>
      rename World => X
      obtain ⟨j, oo, on, oc, rfl, rfl, hjg, HX, HO⟩ := hrel
      by_cases hj : j < D.length
      · obtain ⟨b1, o1, ix, c0⟩ := (HU.out.below HX.out (Nat.le_refl _)).at (P := Tryz.prog) j hj 22 9 undS sizS
        have HT := hid (addL_take D M j hj)
        have hal := addL_len (D.take j) M
        rw [List.length_take, Nat.min_eq_left (Nat.le_of_lt hj)] at hal
        have ix' := ix .i64
        generalize D[j] = z at *
        generalize addL (D.take j) M = O at *
        have AM := hid (Among_any (.slice oo on oc) O z X HO.out)
        by_cases hz : z ∈ O
        · rw [decide_eq_true hz] at AM
          have HT2 := hid (HT.out.trans (if_pos hz))
          clear hz ix
          go_wp2_with fail
          refine AM.out.mono ?_
          rintro e w1 ⟨rfl, hw1⟩
          subst hw1
          go_wp2
          go_roundg (gk - 1)
          case measure => omega
          case rel => exact ⟨j + 1, oo, on, oc, by go_num, rfl, by omega, HX, hid (by rw [HT2.out]; exact HO.out)⟩
        · rw [decide_eq_false hz] at AM
          have HT2 := hid (HT.out.trans (if_neg hz))
          clear hz ix
          go_wp2_with fail
          refine AM.out.mono ?_
          rintro e w1 ⟨rfl, hw1⟩
          subst hw1
          go_wp2_with fail
          have HLT := hid (World.block_lt_of_cell? _ _ c0)
          have HW1 := hid (show Below w1.heap.size w1 (w1.alloc (.cells #[] 9)).drew from bdrewB (ba (b0 w1) _) 1)
          have HW2 := hid (show Below w1.heap.size w1 ((w1.alloc (.cells #[] 9)).alloc (.cells #[.string (text z)] 9)).drew from bdrewB (ba (ba (b0 w1) _) _) 1)
          have HW3 := hid (show Below w1.heap.size w1 ((w1.alloc (.cells #[.string (text z)] 9)).alloc (.cells #[] 9)).drew from bdrewB (ba (ba (b0 w1) _) _) 1)
          have d1 : (w1.alloc (.cells #[] 9)).cell? ⟨b1, o1, none⟩ = some (.string (text z)) := ((ba (b0 w1) _).cell (p := ⟨b1, o1, none⟩) HLT.out).trans c0
          have HOE := hid (show ((w1.alloc (.cells #[.string (text z)] 9)).alloc (.cells #[] 9)).ownsRow w1.heap.size 9 1 (.slice (some ⟨w1.heap.size + 1, 0, none⟩) 0 0) 0 [] from by
            have := owns_empty (w1.alloc (.cells #[.string (text z)] 9)) 9 1 w1.heap.size (by simp)
            rw [World.size_alloc] at this
            exact this)
          have HZA := hid (show Row 1 ((w1.alloc (.cells #[] 9)).alloc (.cells #[.string (text z)] 9)).drew (.slice (some ⟨w1.heap.size + 1, 0, none⟩) 1 1) 1 [.string (text z)] from by
            have := Row.ofBuild (sz := 1) (w1.alloc (.cells #[] 9)) #[.string (text z)] 9 1 rfl (by omega)
            rw [World.size_alloc] at this
            exact this.below (bdrew _ 1) (Nat.le_refl _))
          have HZB := hid (show Row 1 ((w1.alloc (.cells #[.string (text z)] 9)).alloc (.cells #[] 9)).drew (.slice (some ⟨w1.heap.size, 0, none⟩) 1 1) 1 [.string (text z)] from
            (Row.ofBuild (sz := 1) w1 #[.string (text z)] 9 1 rfl (by omega)).below (bdrewB (ba (b0 _) (.cells #[] 9)) 1) (Nat.le_refl _))
          have HMK := hid (show ∀ (w10 : World) (v10 : Value), w10.ownsRow w1.heap.size 9 1 v10 (O.length + 1) (strsOf O ++ [.string (text z)]) → Strs w10 v10 (O ++ [z]) from fun w10 v10 hown => by
            have : OwnS w1.heap.size w10 v10 (O ++ [z]) := by
              unfold OwnS
              rw [strsOf_append, List.length_append]
              exact hown
            exact this.strs (by rw [List.length_append, List.length_singleton]; omega))
          go_region_law (first
            | (refine step_append_row rfl (.tmp 50) (.tmp 51) 22 rfl w1.heap.size 9 i0 _ 1 16 undS HI.out hz0 hz1 hz2 rfl (by decide) (.slice (some ⟨w1.heap.size, 0, none⟩) 0 0) 0 [] (by simp [Go.Act.eval, Go.Act.put]) (show (w1.alloc (.cells #[] 9)).drew.ownsRow w1.heap.size 9 1 (.slice (some ⟨w1.heap.size, 0, none⟩) 0 0) 0 [] from (owns_empty w1 9 1 w1.heap.size (Nat.le_refl _) : (w1.alloc (.cells #[] 9)).ownsRow w1.heap.size 9 1 (.slice (some ⟨w1.heap.size, 0, none⟩) 0 0) 0 [])) (.slice oo on oc) O.length (strsOf O) (by simp [Go.Act.eval, Go.Act.put]) (HO.out.below HW1.out (Nat.le_refl _)) (strsOf_one O) (by omega) (by unfold maxLen; omega) HW1.out.size ?_
               intro v9 w9 hown9 hg9
               have b9 := grown_below HW1.out (show (w1.alloc (.cells #[] 9)).drew.ownsRow w1.heap.size 9 1 (.slice (some ⟨w1.heap.size, 0, none⟩) 0 0) 0 [] from (owns_empty w1 9 1 w1.heap.size (Nat.le_refl _) : (w1.alloc (.cells #[] 9)).ownsRow w1.heap.size 9 1 (.slice (some ⟨w1.heap.size, 0, none⟩) 0 0) 0 [])) (Nat.le_refl _) hg9
               have HO9 := hid (show w9.ownsRow w1.heap.size 9 1 v9 O.length (strsOf O) from by simpa using hown9)
               have HB9 := hid b9
               have c9 : w9.cell? ⟨b1, o1, none⟩ = some (.string (text z)) := (b9.cell (p := ⟨b1, o1, none⟩) HLT.out).trans c0
               clear hown9 hg9 b9)
            | (refine step_append_row rfl (.tmp 50) (.tmp 51) 22 rfl w1.heap.size 9 i0 _ 1 16 undS HI.out hz0 hz1 hz2 rfl (by decide) (.slice (some ⟨w1.heap.size, 0, none⟩) 0 0) 0 [] (by simp [Go.Act.eval, Go.Act.put]) (show ((w1.alloc (.cells #[] 9)).alloc (.cells #[.string (text z)] 9)).drew.ownsRow w1.heap.size 9 1 (.slice (some ⟨w1.heap.size, 0, none⟩) 0 0) 0 [] from (owns_later (owns_empty w1 9 1 w1.heap.size (Nat.le_refl _)) (ba (b0 _) (.cells #[.string (text z)] 9)) : ((w1.alloc (.cells #[] 9)).alloc (.cells #[.string (text z)] 9)).ownsRow w1.heap.size 9 1 (.slice (some ⟨w1.heap.size, 0, none⟩) 0 0) 0 [])) (.slice oo on oc) O.length (strsOf O) (by simp [Go.Act.eval, Go.Act.put]) (HO.out.below HW2.out (Nat.le_refl _)) (strsOf_one O) (by omega) (by unfold maxLen; omega) HW2.out.size ?_
               intro v9 w9 hown9 hg9
               have b9 := grown_below HW2.out (show ((w1.alloc (.cells #[] 9)).alloc (.cells #[.string (text z)] 9)).drew.ownsRow w1.heap.size 9 1 (.slice (some ⟨w1.heap.size, 0, none⟩) 0 0) 0 [] from (owns_later (owns_empty w1 9 1 w1.heap.size (Nat.le_refl _)) (ba (b0 _) (.cells #[.string (text z)] 9)) : ((w1.alloc (.cells #[] 9)).alloc (.cells #[.string (text z)] 9)).ownsRow w1.heap.size 9 1 (.slice (some ⟨w1.heap.size, 0, none⟩) 0 0) 0 [])) (Nat.le_refl _) hg9
               have HO9 := hid (show w9.ownsRow w1.heap.size 9 1 v9 O.length (strsOf O) from by simpa using hown9)
               have HB9 := hid b9
               have c9 : w9.cell? ⟨b1, o1, none⟩ = some (.string (text z)) := (b9.cell (p := ⟨b1, o1, none⟩) HLT.out).trans c0
               have HZ9 := hid (show Row 1 w9 (.slice (some ⟨w1.heap.size + 1, 0, none⟩) 1 1) 1 [.string (text z)] from Row.same (by omega) HZA.out (fun _ b hb hl => hg9.block b hl (fun e2 => by simp [Value.ownBlock] at hb e2; omega)))
               clear hown9 hg9 b9)
            | (refine step_append_row rfl (.tmp 50) (.tmp 51) 22 rfl w1.heap.size 9 i0 _ 1 16 undS HI.out hz0 hz1 hz2 rfl (by decide) (.slice (some ⟨w1.heap.size + 1, 0, none⟩) 0 0) 0 [] (by simp [Go.Act.eval, Go.Act.put]) (show ((w1.alloc (.cells #[.string (text z)] 9)).alloc (.cells #[] 9)).drew.ownsRow w1.heap.size 9 1 (.slice (some ⟨w1.heap.size + 1, 0, none⟩) 0 0) 0 [] from HOE.out) (.slice oo on oc) O.length (strsOf O) (by simp [Go.Act.eval, Go.Act.put]) (HO.out.below HW3.out (Nat.le_refl _)) (strsOf_one O) (by omega) (by unfold maxLen; omega) HW3.out.size ?_
               intro v9 w9 hown9 hg9
               have b9 := grown_below HW3.out (show ((w1.alloc (.cells #[.string (text z)] 9)).alloc (.cells #[] 9)).drew.ownsRow w1.heap.size 9 1 (.slice (some ⟨w1.heap.size + 1, 0, none⟩) 0 0) 0 [] from HOE.out) (Nat.le_refl _) hg9
               have HO9 := hid (show w9.ownsRow w1.heap.size 9 1 v9 O.length (strsOf O) from by simpa using hown9)
               have HB9 := hid b9
               have c9 : w9.cell? ⟨b1, o1, none⟩ = some (.string (text z)) := (b9.cell (p := ⟨b1, o1, none⟩) HLT.out).trans c0
               have HZ9 := hid (show Row 1 w9 (.slice (some ⟨w1.heap.size, 0, none⟩) 1 1) 1 [.string (text z)] from Row.same (by omega) HZB.out (fun _ b hb hl => hg9.block b hl (fun e2 => by simp [Value.ownBlock] at hb e2; omega)))
               clear hown9 hg9 b9)
            | (refine step_append_row rfl (.tmp 52) (.tmp 57) 22 rfl w1.heap.size 9 i0 _ 1 16 undS HI.out hz0 hz1 hz2 rfl (by decide) v9 O.length (strsOf O) (by simp [Go.Act.eval, Go.Act.put]) (HO9.out) (.slice (some ⟨w1.heap.size + 1, 0, none⟩) 1 1) 1 [.string (text z)] (by simp [Go.Act.eval, Go.Act.put]) (HZ9.out) (by simp [Value.oneCell']) (by omega) (by unfold maxLen; omega) (HB9.out).size ?_
               intro v10 w10 hown10 hg10
               have HB10 := hid (grown_below (HB9.out) (HO9.out) (Nat.le_refl _) hg10)
               have HO10 := hid (show Strs w10 v10 (O ++ [z]) from HMK.out w10 v10 hown10)
               clear hown10 hg10)
            | (refine step_append_row rfl (.tmp 52) (.tmp 57) 22 rfl w1.heap.size 9 i0 _ 1 16 undS HI.out hz0 hz1 hz2 rfl (by decide) v9 O.length (strsOf O) (by simp [Go.Act.eval, Go.Act.put]) (HO9.out) (.slice (some ⟨w1.heap.size, 0, none⟩) 1 1) 1 [.string (text z)] (by simp [Go.Act.eval, Go.Act.put]) (HZ9.out) (by simp [Value.oneCell']) (by omega) (by unfold maxLen; omega) (HB9.out).size ?_
               intro v10 w10 hown10 hg10
               have HB10 := hid (grown_below (HB9.out) (HO9.out) (Nat.le_refl _) hg10)
               have HO10 := hid (show Strs w10 v10 (O ++ [z]) from HMK.out w10 v10 hown10)
               clear hown10 hg10)
            | (refine step_append_row rfl (.tmp 52) (.tmp 57) 22 rfl w1.heap.size 9 i0 _ 1 16 undS HI.out hz0 hz1 hz2 rfl (by decide) v9 O.length (strsOf O) (by simp [Go.Act.eval, Go.Act.put]) (owns_later HO9.out (ba (b0 w9) (.cells #[.string (text z)] 9))) (.slice (some ⟨w9.heap.size, 0, none⟩) 1 1) 1 [.string (text z)] (by simp [Go.Act.eval, Go.Act.put]) (Row.ofBuild (sz := 1) w9 #[.string (text z)] 9 1 rfl (by omega)) (by simp [Value.oneCell']) (by omega) (by unfold maxLen; omega) (ba HB9.out (.cells #[.string (text z)] 9)).size ?_
               intro v10 w10 hown10 hg10
               have HB10 := hid (grown_below (ba HB9.out (.cells #[.string (text z)] 9)) (owns_later HO9.out (ba (b0 w9) (.cells #[.string (text z)] 9))) (Nat.le_refl _) hg10)
               have HO10 := hid (show Strs w10 v10 (O ++ [z]) from HMK.out w10 v10 hown10)
               clear hown10 hg10))
          all_goals obtain ⟨ro, rn, rc, rfl⟩ := Strs.form HO10.out
          all_goals go_wp2
          all_goals go_roundg (gk - 1)
          all_goals first
            | omega
            | exact ⟨j + 1, ro, rn, rc, by go_num, rfl, by omega, hid (bt HX.out HB10.out), hid (by rw [HT2.out]; exact HO10.out)⟩
      · go_wp2
        go_ret
        exact ⟨oo, on, oc, rfl, by rw [hw0.out]; have := HO.out; rw [List.take_of_length_le (by omega)] at this; exact this, bt HWC.out HX.out⟩
end Go.Proofs.YtlhhjocfbafoeaaGreatDoor.Xp
