/- Layer 14: OrderSorts, however great its arguments are. -/
import Derived.Test.YtkpmkabddhpojaaOrR
import Derived.Test.YtkpmkabddhpojaaOrQ
set_option linter.unusedVariables false
set_option linter.unusedSimpArgs false
namespace Go.Proofs.Ytkpmkabddhpojaa.Or
open Go Go.Proofs.Ytkpmkabddhpojaa Go.ChangeShapes Go.WideShapes Go.ChangeAt Go.RowKit Go.Deep
set_option maxRecDepth 100000
section
variable {H : Type} {enc : TypeId × Value → H} {w : World} {base : Nat} {spare : Nat → Bool} {held : Bool}
theorem bytesI : Try.prog.bytesOf 3 = 8 := by kernel_rfl
theorem bytesR : Try.prog.bytesOf 26 = 24 := by kernel_rfl
theorem weights_mem {P : Program} {e : TypeId} : ∀ {ds : List (DataW H)} {d : DataW H} {m : Nat}, d ∈ ds → m ∈ d.weights P e → m ∈ DataW.weightsAll P e ds
  | [], d, m, h, _ => by cases h
  | y :: ds, d, m, h, hm => by
    unfold DataW.weightsAll
    rcases List.mem_cons.1 h with rfl | h
    · exact List.mem_append.2 (.inl hm)
    · exact List.mem_append.2 (.inr (weights_mem h hm))
/-- None of its weights is more than there are addresses. -/
def Light (t : TypeId) (d : DataW H) : Prop := ∀ m ∈ d.weights Try.prog t, m ≤ 140737488355328
theorem light_of {d : DataW H} {ts : List TypeId} {ds : List (DataW H)} (hsz : (DataW.weightsEach Try.prog ts ds).all (· ≤ reachBytes) = true) (j : Nat) {t : TypeId} (hts : ts[j]? = some t) (hds : ds[j]? = some d) : Light t d := fun m hm =>
  Nat.le_trans (of_decide_eq_true (List.all_eq_true.1 hsz _ (DataW.weights_mem_each (P := Try.prog) hts hds m hm))) (by decide)
theorem open_row_wide {fuel : Nat} {v : Value} {x : DataW H × List MemPlace} (h : DataW.trod enc Try.prog w base spare held fuel 26 [v] = some x) (hs : Light 26 x.1) : ∃ l : List Int, Row 1 w v l.length (l.map encI) := by
  rcases open_ints Try.underlying26 Try.underlying3 (by kernel_rfl) h with ⟨hv, hx⟩ | ⟨a, len, cap, zs, hv, hbs, hl, hm, hlen, hx, hcell, hwf⟩
  · obtain rfl : v = .slice none 0 0 := by simpa using hv
    exact ⟨[], Row.nil 1 w⟩
  obtain rfl : v = .slice (some a) len cap := by simpa using hv
  have hsl : len ≤ zs.length := by rw [hlen]; split <;> omega
  have hll : (zs.take len).length = len := by simp; omega
  have hlen0 : len ≤ 281474976710656 := by
    rw [hx] at hs
    have := hs ((lits (H := H) .i64 (zs.take len)).length * 8 + (lits (H := H) .i64 (zs.drop len)).length * 8) (by
      simp only [DataW.weights, Try.underlying26, bytesI]
      rw [← Nat.add_mul]
      exact List.mem_cons_self ..)
    simp only [lits, List.length_map, List.length_take, List.length_drop] at this
    omega
  refine ⟨zs.take len, ?_⟩
  rw [hll]
  refine ⟨⟨some a, cap, rfl, hl, hm, by omega, (fun e => by cases e), fun h0 => ?_⟩, by rw [List.length_map, hll]; omega⟩
  rw [List.length_map, hll] at h0
  obtain ⟨b, off, spot⟩ := a
  have h1 := hcell 0 (by omega)
  have hspot : spot = none := by simpa [Addr.add] using World.cell?_spot h1
  subst hspot
  refine ⟨b, off, rfl, fun j u hj => ?_⟩
  have hjl : j < len := by
    have := (List.getElem?_eq_some_iff.1 hj).1
    rw [List.length_map, hll] at this; exact this
  have h2 := hcell j (by omega)
  rw [Addr.add_lit] at h2
  rw [h2]
  have hjs : j < zs.length := by omega
  have : ((zs.take len).map encI)[j]? = some (encI zs[j]) := by simp [hjl, hjs]
  rw [this] at hj
  rw [← hj]
  simp [hjs, encI]
theorem arg_needs_wide {b0 : Nat} {v : Value} {d : DataW H} {ps : List MemPlace}
    (hval : Value.okWide Try.prog w .any b0 23 v) (h : DataW.Trod enc Try.prog w 0 (fun _ => true) true 23 v d ps) (hs : Light 23 d) :
    ∃ M : List (List Int), Nd encI (fun _ => True) w v M := by
  obtain ⟨a, n, c, rfl⟩ := okWide_slice Try.underlying23 hval
  obtain ⟨fuel, hf⟩ := h
  rcases open_slice Try.underlying23 (x := (d, ps)) (by simpa [Value.cells] using hf) with ⟨hv, _⟩ | ⟨a', len, cap, m, k0, Dt, Pl, hv, hb, hl, hm, hmm, hd, hx⟩
  · obtain ⟨rfl, rfl, rfl⟩ : a = none ∧ n = 0 ∧ c = 0 := by simpa using hv
    exact ⟨[], ⟨[], RowD.of (Row.nil 1 w), fun i hi => by simp at hi⟩⟩
  obtain ⟨ha, rfl, rfl⟩ : a = some a' ∧ n = len ∧ c = cap := by simpa using hv
  subst ha
  have hd1 : d = .slice ((List.range n).map Dt) ((List.range (m - n)).map fun j => Dt (n + j)) := congrArg Prod.fst hd
  subst hd1
  have hlm : n ≤ m := by rw [hmm]; split <;> omega
  have hsl : ∀ i, i < n → Light 26 (Dt i) := fun i hi q hq => hs q (by
    simp only [DataW.weights, Try.underlying23]
    exact List.mem_cons_of_mem _ (List.mem_append.2 (.inl (weights_mem (List.mem_map.2 ⟨i, List.mem_range.2 hi, rfl⟩) hq))))
  have hlen0 : n ≤ 281474976710656 := by
    have := hs (((List.range n).map Dt).length * 24 + ((List.range (m - n)).map fun j => Dt (n + j)).length * 24) (by
      simp only [DataW.weights, Try.underlying23, bytesR]
      rw [← Nat.add_mul]
      exact List.mem_cons_self ..)
    simp only [List.length_map, List.length_range] at this
    omega
  have each : ∀ i, i < n → ∃ p : List Int × Value, w.cell? (a'.add i) = some p.2 ∧ Row 1 w p.2 p.1.length (p.1.map encI) := by
    intro i hi
    obtain ⟨cs', h1, h2⟩ := hx i (by omega)
    rw [show Try.prog.cellsOf 26 = 1 by kernel_rfl] at h1
    obtain ⟨_, hlen, hcell⟩ := World.cells?_some h1
    match cs', hlen with
    | [v0], _ =>
      obtain ⟨l, q1⟩ := open_row_wide h2 (hsl i hi)
      refine ⟨(l, v0), ?_, q1⟩
      have := hcell 0 (by omega)
      simpa [Addr.add] using this
  obtain ⟨p, hp⟩ := choose_row each
  have hlen : ((List.range n).map fun i => (p i).1).length = n := by simp
  refine ⟨(List.range n).map fun i => (p i).1, ⟨(List.range n).map fun i => (p i).2, RowD.of ?_, fun i hi => ?_⟩⟩
  · rw [hlen]
    refine ⟨⟨some a', c, rfl, hl, hm, hlen0, (fun e => by cases e), fun h0 => ?_⟩, by simp⟩
    have hn0 : 0 < n := by simpa using h0
    obtain ⟨b, off, spot⟩ := a'
    have h1 := (hp 0 hn0).1
    have hspot : spot = none := by simpa [Addr.add] using World.cell?_spot h1
    subst hspot
    refine ⟨b, off, rfl, fun j u hj => ?_⟩
    have hjn : j < n := by
      have := (List.getElem?_eq_some_iff.1 hj).1
      simpa using this
    have h2 := (hp j hjn).1
    rw [Addr.add_lit] at h2
    rw [h2]
    simpa [hjn] using hj
  · have hin : i < n := by rw [hlen] at hi; exact hi
    refine ⟨(p i).2, by simp [hin], ?_⟩
    have e1 : ((List.range n).map fun i => (p i).1)[i] = (p i).1 := by simp
    rw [e1]
    exact RowD.of (hp i hin).2
end
variable {D : Nat → Prop}
theorem Nd.el_le {w : World} {v : Value} {M : List (List Int)} (h : Nd encI D w v M) (i : Nat) (hi : i < M.length) : M[i].length ≤ 281474976710656 := by
  obtain ⟨vs, h1, h2⟩ := h
  obtain ⟨x, _, hr⟩ := h2 i hi
  exact hr.1.le
theorem massI_few (M : List (List Int)) (h : ∀ i (hi : i < M.length), M[i].length ≤ 281474976710656) : ∀ k, k ≤ M.length → massI (M.take k) ≤ k * 281474976710656
  | 0, _ => by simp [massI]
  | k + 1, hk => by
    have h1 := massI_few M h k (by omega)
    have h2 := massI_take M k (by omega)
    have h3 := h k (by omega)
    omega
set_option maxHeartbeats 2000000 in
/-- great, at no more than 300 rows. -/
theorem great_few (v : Value) (M : List (List Int)) (w : World) (hv : Nd encI D w v M) (hn : M.length ≤ 300) :
    Calls Try.prog 10 #[v] w fun e w' => e = .returned (.bool (decide (300 < M.length + massI M))) ∧ w = w' := by
  have hlen := fun W => hv.len (P := Try.prog) 23 3 26 Try.underlying23 W
  have V := hid hv
  have HF := hid (massI_few M (fun i hi => hv.el_le i hi))
  obtain ⟨r, hr⟩ : ∃ r, decide (300 < M.length + massI M) = r := ⟨_, rfl⟩
  rw [hr]
  have HR := hid hr
  clear hv hr
  go_enter Try.func10, Try.ntmps10
  go_wp2
  go_loopg [3, 10] M.length (fun kx s3 s10 wr => ∃ i c : Nat, s3 = .int .i64 c ∧ s10 = .int .i64 i ∧ i ≤ M.length ∧ M.length - i ≤ kx ∧ w = wr ∧ c ≤ 1152921504606846976 ∧ Hid (c = M.length + massI (M.take i)))
  case atStart => exact ⟨0, M.length, rfl, rfl, Nat.zero_le _, by omega, rfl, by omega, hid (by simp [massI])⟩
  case round =>
    obtain ⟨i, c, rfl, rfl, hi, hg, rfl, hcb, I⟩ := hrel
    by_cases hil : i < M.length
    · obtain ⟨b, o, x, hix, hc, hx⟩ := V.out.at (P := Try.prog) i hil 23 26 Try.underlying23 Try.sizeOf26
      have hlen2 := fun W => hx.1.len (P := Try.prog) 26 3 3 Try.underlying26 W
      have hst := massI_take M i hil
      have hml := HF.out (i + 1) hil
      have hle2 := hx.1.le
      generalize M[i].length = n at *
      have HC := hid (show c + n = M.length + massI (M.take (i + 1)) by rw [I.out, hst]; omega)
      have hcn : c + n ≤ 1152921504606846976 := by have := HC.out; omega
      clear hst hx hml
      go_wp2
      go_roundg (M.length - (i + 1))
      case measure => omega
      case rel => exact ⟨i + 1, c + n, by go_num, by go_num, by omega, Nat.le_refl _, rfl, by omega, HC⟩
    · obtain rfl : i = M.length := by omega
      have HE := hid (show c = M.length + massI M by have := I.out; rwa [List.take_of_length_le (Nat.le_refl _)] at this)
      have HD := hid (show decide (300 < (c : Int)) = r by rw [← HR.out, ← HE.out]; simp only [decide_eq_decide]; omega)
      go_wp2
      go_ret
      exact ⟨by rw [← HD.out]; rfl, rfl⟩
set_option maxHeartbeats 2000000 in
/-- great, of any. -/
theorem great_some (v : Value) (M : List (List Int)) (w : World) (hv : Nd encI D w v M) :
    Calls Try.prog 10 #[v] w fun e w' => Hid (∃ g : Value, e = .returned g ∧ (g = .bool true ∨ g = .bool false)) ∧ w = w' := by
  have hlen := fun W => hv.len (P := Try.prog) 23 3 26 Try.underlying23 W
  have V := hid hv
  have hle := hv.le
  clear hv
  go_enter Try.func10, Try.ntmps10
  go_wp2
  go_loopg [3, 10] M.length (fun kx s3 s10 wr => ∃ (i : Nat) (c : Int), s3 = .int .i64 c ∧ s10 = .int .i64 i ∧ i ≤ M.length ∧ M.length - i ≤ kx ∧ w = wr)
  case atStart => exact ⟨0, M.length, rfl, rfl, Nat.zero_le _, by omega, rfl⟩
  case round =>
    obtain ⟨i, c, rfl, rfl, hi, hg, rfl⟩ := hrel
    by_cases hil : i < M.length
    · obtain ⟨b, o, x, hix, hc, hx⟩ := V.out.at (P := Try.prog) i hil 23 26 Try.underlying23 Try.sizeOf26
      have hlen2 := fun W => hx.1.len (P := Try.prog) 26 3 3 Try.underlying26 W
      generalize M[i].length = n at *
      clear hx
      go_wp2
      go_roundg (M.length - (i + 1))
      case measure => omega
      case rel => exact ⟨i + 1, _, rfl, by go_num, by omega, Nat.le_refl _, rfl⟩
    · obtain rfl : i = M.length := by omega
      go_wp2
      go_ret
      exact ⟨hid ⟨_, rfl, by cases h : decide (300 < c) <;> simp_all⟩, rfl⟩

set_option maxHeartbeats 8000000 in
theorem OrderSorts_few (nv v : Value) (S : List (List UInt8)) (M : List (List Int)) (w : World) (hs : Strs w nv S) (hv : Nd encI D w v M) (hfew : M.length ≤ 300) :
    Calls Try.prog 3 #[nv, v] w fun e w' => e = .returned (.bool true) ∧ Below w.heap.size w w' := by
  have hlens := fun W => hs.len (P := Try.prog) 22 3 9 Try.underlying22 W
  have AL := hid (fun W => alive_any W)
  have HS := hid hs
  have HV := hid hv
  have hSle := hs.le
  clear hs hv
  go_enter Try.func3, Try.ntmps3
  go_wp2_with fail
  refine (AL.out _).mono ?_
  rintro e w1 ⟨rfl, b1⟩
  have B1 := hid b1
  have GR := hid (great_few v M w1 (HV.out.later b1) hfew)
  clear b1
  cases hg : decide (300 < M.length + massI M) with
  | true =>
    rw [hg] at GR
    clear hg
    go_wp2_with fail
    refine GR.out.mono ?_
    rintro e w2 ⟨rfl, rfl⟩
    go_wp2_with fail
    refine (AL.out _).mono ?_
    rintro e w2 ⟨rfl, b2⟩
    have B2 := hid (bt B1.out b2)
    clear b2
    go_wp2_with fail
    go_ret
    exact ⟨rfl, B2.out⟩
  | false =>
    rw [hg] at GR
    have hM : M.length + massI M ≤ 300 := by simpa using hg
    clear hg
    by_cases hS3 : 300 < S.length
    · have hS3' : (300 : Int) < S.length := by omega
      go_wp2_with fail
      refine GR.out.mono ?_
      rintro e w2 ⟨rfl, rfl⟩
      go_wp2_with fail
      refine (AL.out _).mono ?_
      rintro e w2 ⟨rfl, b2⟩
      have B2 := hid (bt B1.out b2)
      clear b2
      go_wp2_with fail
      go_ret
      exact ⟨rfl, B2.out⟩
    · go_wp2_with fail
      refine GR.out.mono ?_
      rintro e w2 ⟨rfl, rfl⟩
      have HS1 := hid (HS.out.below B1.out (Nat.le_refl _))
      have HV1 := hid (HV.out.later B1.out)
      by_cases hne : S.length = M.length
      · cases hR : rightB M with
        | false =>
          have A1 := hid (Sort_bad HS1.out HV1.out hne hR)
          have A2 := hid (RSort_bad HS1.out HV1.out hne hR)
          have A3 := hid (same_any _ _ [] [] w1 (row_nil w1) (row_nil w1))
          rw [show decide (([] : List Nat) = []) = true from rfl] at A3
          clear hR
          go_wp2_with fail
          refine A1.out.mono ?_
          rintro e w2 ⟨rfl, rfl⟩
          go_wp2_with fail
          refine A2.out.mono ?_
          rintro e w2 ⟨rfl, rfl⟩
          go_wp2_with fail
          refine A3.out.mono ?_
          rintro e w2 ⟨rfl, b2⟩
          have B2 := hid (bt B1.out b2)
          clear b2
          go_wp2_with fail
          go_ret
          exact ⟨rfl, B2.out⟩
        | true =>
          obtain ⟨N, rfl, hRN⟩ := right_nat hR
          rw [toI_length] at hne
          rw [toI_length, massI_toI] at hM
          have A1 := hid (Sort_ok HS1.out (nd_int.1 HV1.out) hne hRN (by omega))
          have HRN := hid hRN
          have HNE := hid hne
          clear hR hRN hne
          go_wp2_with fail
          refine A1.out.mono ?_
          rintro e w2 ⟨line, out, hb, hd, ⟨r, ho, rfl⟩, b2⟩
          have HB := hid hb
          have HD := hid hd
          have HO := hid ho
          have B2 := hid (bt B1.out b2)
          have A2 := hid (RSort_ok (HS1.out.below b2 (Nat.le_refl _)) ((nd_int.1 HV1.out).later b2) HNE.out HRN.out (by omega) hb)
          have hol : out.length ≤ N.length := hd.le (by rw [← HNE.out]; exact hb.1)
          clear hb hd ho b2
          by_cases hq : out.length < N.length
          · rw [if_pos hq]
            go_wp2_with fail
            refine A2.out.mono ?_
            rintro e w3 ⟨out2, hd2, ⟨r2, ho2, rfl⟩, b3⟩
            obtain rfl := HD.out.unique hd2
            rw [if_pos hq]
            have B3 := hid (bt B2.out b3)
            have A3 := hid (same_any _ _ [] [] w3 (row_nil w3) (row_nil w3))
            rw [show decide (([] : List Nat) = []) = true from rfl] at A3
            clear hd2 ho2 b3
            go_wp2_with fail
            refine A3.out.mono ?_
            rintro e w4 ⟨rfl, b4⟩
            have B4 := hid (bt B3.out b4)
            clear b4
            go_wp2_with fail
            go_ret
            exact ⟨rfl, B4.out⟩
          · rw [if_neg hq]
            go_wp2_with fail
            refine A2.out.mono ?_
            rintro e w3 ⟨out2, hd2, ⟨r2, ho2, rfl⟩, b3⟩
            obtain rfl := HD.out.unique hd2
            rw [if_neg hq]
            have B3 := hid (bt B2.out b3)
            have A3 := hid (same_any r r2 out out w3 (Row.ofOwns (owns_later HO.out b3) (by omega)) (Row.ofOwns ho2 (by omega)))
            rw [show decide (out = out) = true by simp] at A3
            clear hd2 ho2 b3
            go_wp2_with fail
            refine A3.out.mono ?_
            rintro e w4 ⟨rfl, b4⟩
            have B4 := hid (bt B3.out b4)
            clear b4
            go_wp2_with fail
            go_ret
            exact ⟨rfl, B4.out⟩
      · have A1 := hid (Sort_len HS1.out HV1.out hne)
        have A2 := hid (RSort_len HS1.out HV1.out hne)
        have A3 := hid (same_any _ _ [] [] w1 (row_nil w1) (row_nil w1))
        rw [show decide (([] : List Nat) = []) = true from rfl] at A3
        clear hne
        go_wp2_with fail
        refine A1.out.mono ?_
        rintro e w2 ⟨rfl, rfl⟩
        go_wp2_with fail
        refine A2.out.mono ?_
        rintro e w2 ⟨rfl, rfl⟩
        go_wp2_with fail
        refine A3.out.mono ?_
        rintro e w2 ⟨rfl, b2⟩
        have B2 := hid (bt B1.out b2)
        clear b2
        go_wp2_with fail
        go_ret
        exact ⟨rfl, B2.out⟩


set_option maxHeartbeats 8000000 in
theorem OrderSorts_many (nv v : Value) (S : List (List UInt8)) (M : List (List Int)) (w : World) (hs : Strs w nv S) (hv : Nd encI D w v M) (hmany : 300 < M.length) :
    Calls Try.prog 3 #[nv, v] w fun e w' => e = .returned (.bool true) ∧ Below w.heap.size w w' := by
  have hlens := fun W => hs.len (P := Try.prog) 22 3 9 Try.underlying22 W
  have AL := hid (fun W => alive_any W)
  have HS := hid hs
  have HV := hid hv
  have hSle := hs.le
  clear hs hv
  go_enter Try.func3, Try.ntmps3
  go_wp2_with fail
  refine (AL.out _).mono ?_
  rintro e w1 ⟨rfl, b1⟩
  have B1 := hid b1
  have GR := hid (great_some v M w1 (HV.out.later b1))
  clear b1
  go_wp2_with fail
  refine GR.out.mono ?_
  rintro e w2 ⟨hh, rfl⟩
  obtain ⟨g, rfl, hg⟩ := hh.out
  rcases hg with rfl | rfl
  · go_wp2_with fail
    refine (AL.out _).mono ?_
    rintro e w2 ⟨rfl, b2⟩
    have B2 := hid (bt B1.out b2)
    clear b2
    go_wp2_with fail
    go_ret
    exact ⟨rfl, B2.out⟩
  · by_cases hS3 : 300 < S.length
    · have hS3' : (300 : Int) < S.length := by omega
      go_wp2_with fail
      refine (AL.out _).mono ?_
      rintro e w2 ⟨rfl, b2⟩
      have B2 := hid (bt B1.out b2)
      clear b2
      go_wp2_with fail
      go_ret
      exact ⟨rfl, B2.out⟩
    · have HS1 := hid (HS.out.below B1.out (Nat.le_refl _))
      have HV1 := hid (HV.out.later B1.out)
      have A1 := hid (Sort_len HS1.out HV1.out (by omega))
      have A2 := hid (RSort_len HS1.out HV1.out (by omega))
      have A3 := hid (same_any _ _ [] [] w1 (row_nil w1) (row_nil w1))
      rw [show decide (([] : List Nat) = []) = true from rfl] at A3
      go_wp2_with fail
      refine A1.out.mono ?_
      rintro e w2 ⟨rfl, rfl⟩
      go_wp2_with fail
      refine A2.out.mono ?_
      rintro e w2 ⟨rfl, rfl⟩
      go_wp2_with fail
      refine A3.out.mono ?_
      rintro e w2 ⟨rfl, b2⟩
      have B2 := hid (bt B1.out b2)
      clear b2
      go_wp2_with fail
      go_ret
      exact ⟨rfl, B2.out⟩
theorem OrderSorts_wide (nv v : Value) (S : List (List UInt8)) (M : List (List Int)) (w : World) (hs : Strs w nv S) (hv : Nd encI D w v M) :
    Calls Try.prog 3 #[nv, v] w fun e w' => e = .returned (.bool true) ∧ Below w.heap.size w w' := by
  by_cases h : 300 < M.length
  · exact OrderSorts_many nv v S M w hs hv h
  · exact OrderSorts_few nv v S M w hs hv (by omega)
end Go.Proofs.Ytkpmkabddhpojaa.Or
