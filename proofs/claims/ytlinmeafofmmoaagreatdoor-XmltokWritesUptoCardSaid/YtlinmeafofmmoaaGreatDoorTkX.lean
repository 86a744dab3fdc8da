/- Layer 4: contract of great: how much there is. | Layer 4: the walk of the statement XmltokBack. -/
import Derived.Test.YtlinmeafofmmoaaGreatDoorTkB
import Derived.Deep.LoopGhost
import Derived.Test.YtlinmeafofmmoaaGreatDoorTkR
set_option linter.unusedVariables false
set_option linter.unusedSimpArgs false
namespace Go.Proofs.YtlinmeafofmmoaaGreatDoor.Tok
open Go Go.Proofs.YtlinmeafofmmoaaGreatDoor Go.Proofs.YtlinmeafofmmoaaGreatDoor.Utf Go.Proofs.YtlinmeafofmmoaaGreatDoor.Names Go.Proofs.YtlinmeafofmmoaaGreatDoor.Ent Go.RowKit
set_option maxRecDepth 100000

theorem gTT : Tryz.prog.underlying 60 = some (.slice 22) := Tryz.underlying60
theorem gT : Tryz.prog.underlying 22 = some (.slice 59) := Tryz.underlying22
theorem gP : Tryz.prog.underlying 57 = some (.slice 56) := Tryz.underlying57
theorem gsT (W : World) : (sizeOf 59).run Tryz.prog W = .ok 4 W := Tryz.sizeOf59 W
theorem gsP (W : World) : (sizeOf 56).run Tryz.prog W = .ok 3 W := Tryz.sizeOf56 W
theorem gsS (W : World) : (sizeOf 22).run Tryz.prog W = .ok 1 W := Tryz.sizeOf22 W

def part {α : Type} (f : α → Nat) (l : List α) (k : Nat) : Nat := ((l.take k).map f).sum
theorem part_zero {α : Type} (f : α → Nat) (l : List α) : part f l 0 = 0 := by simp [part]
theorem part_succ {α : Type} (f : α → Nat) (l : List α) (k : Nat) (h : k < l.length) : part f l (k + 1) = part f l k + f l[k] := by
  unfold part
  rw [List.take_succ_eq_append_getElem h, List.map_append, List.sum_append]
  rfl
theorem part_all {α : Type} (f : α → Nat) (l : List α) : part f l l.length = (l.map f).sum := by simp [part]
theorem part_le {α : Type} (f : α → Nat) : ∀ (l : List α) (k : Nat), part f l k ≤ (l.map f).sum
  | [], k => by simp [part]
  | a :: l, 0 => by simp [part]
  | a :: l, k + 1 => by
    have := part_le f l k
    unfold part at this ⊢
    simp only [List.take_succ_cons, List.map_cons, List.sum_cons]
    omega
/-- What a token adds behind its row's length. -/
def tokAdd (t : Tok) : Nat := t.s.length + prsMass t.attrs
theorem mass_add : ∀ l : List Tok, toksMass l = l.length + (l.map tokAdd).sum
  | [] => rfl
  | t :: l => by
    have := mass_add l
    unfold toksMass at this ⊢
    simp only [List.map_cons, List.sum_cons, List.length_cons]
    have h1 : tokMass t = 1 + t.s.length + prsMass t.attrs := rfl
    have h2 : tokAdd t = t.s.length + prsMass t.attrs := rfl
    omega
def rowsMass (rows : List (Value × List Tok)) : Nat := (rows.map fun x => toksMass x.2).sum

theorem sum4 {p3 p p2 p1 nl vl n1 a b m : Nat} (h1 : p1 = 1 + nl) (h2 : p2 = p1 + vl) (h3 : p3 = p + p2) (h4 : p = n1 + a) (h5 : b = a + m) (h6 : m = 1 + nl + vl) : p3 = n1 + b := by omega
theorem add64 (a b c : Nat) (h : c = a + b) (hc : c ≤ 1000000000000) : wrap64 ((a : Int) + (b : Int)) = (c : Int) := by rw [IntWalk.wrap64_in _ ⟨by omega, by omega⟩]; omega
set_option maxHeartbeats 1000000 in
theorem Great_any (rows : List (Value × List Tok)) (vv : Value) (w : World) (hv : Row 1 w vv rows.length (rows.map (·.1))) (hr : ∀ x ∈ rows, Toks w x.1 x.2) (hm : rowsMass rows ≤ 1000000000) :
    Calls Tryz.prog 10 #[vv] w fun e w' => e = .returned (.bool (decide (3000 < rowsMass rows))) ∧ Below w.heap.size w w' := by
  have vlen := fun X => hv.len (P := Tryz.prog) 60 3 22 gTT X
  have hrl : rows.length ≤ 281474976710656 := Row.le hv
  have HV := hid hv
  have HR := hid hr
  have HM := hid hm
  clear hv hr hm
  go_enter Tryz.func10, Tryz.ntmps10
  go_wp2_with fail
  go_loopg [12, 3] rows.length (fun g iv nv X => ∃ i m : Nat, iv = .int .i64 i ∧ nv = .int .i64 m ∧ Hid (m = part (fun x => toksMass x.2) rows i) ∧ i + g = rows.length ∧ Below w.heap.size w X)
  case atStart => exact ⟨0, 0, rfl, rfl, hid (part_zero _ _).symm, by omega, b0 w⟩
  case round =>
    rename World => X
    obtain ⟨i, m, rfl, rfl, HMI, hig, hb⟩ := hrel
    have HB := hid hb
    clear hb
    by_cases hi : i < rows.length
    · obtain ⟨bp, op, ia, k0⟩ := (HV.out.below HB.out (Nat.le_refl _)).at (P := Tryz.prog) (by omega) i hi 60 22 gTT gsS
      have hc : X.cell? ⟨bp, op, none⟩ = some rows[i].1 := by simpa using k0 0 rows[i].1 (by omega) (by simp [hi])
      have hT := HR.out rows[i] (List.getElem_mem hi)
      have HS := hid (part_succ (fun x : Value × List Tok => toksMass x.2) rows i hi)
      have HLE : Hid (part (fun x : Value × List Tok => toksMass x.2) rows (i + 1) ≤ 1000000000) := hid (Nat.le_trans (part_le (fun x : Value × List Tok => toksMass x.2) rows (i + 1)) HM.out)
      generalize hx : rows[i] = x at *
      obtain ⟨xv, l⟩ := x
      dsimp only at hT hc HS
      obtain ⟨xo, xn, xc, rfl⟩ : ∃ o n c, xv = .slice o n c := by obtain ⟨r, _, ⟨⟨a, c, h, _⟩, _⟩, _⟩ := hT; exact ⟨_, _, _, h⟩
      have tlen := fun X => hT.len (P := Tryz.prog) 22 3 59 gT X
      have HLL := hid (mass_add l)
      obtain ⟨m1, hm1⟩ : ∃ m1, m1 = m + l.length := ⟨_, rfl⟩
      have a1 := add64 m l.length m1 hm1 (by have := HS.out; have := HLE.out; have := HMI.out; have := HLL.out; omega)
      have HM1 := hid hm1
      have hll : l.length ≤ 281474976710656 := by have := HS.out; have := HLE.out; have := HLL.out; omega
      have HT := hid hT
      clear hT hx k0 hm1
      generalize hG : gk = G at *
      clear hG
      go_wp2_with fail
      go_loopg [22, 3] l.length (fun g iv nv Y => ∃ k n : Nat, iv = .int .i64 k ∧ nv = .int .i64 n ∧ Hid (n = m1 + part tokAdd l k) ∧ k + g = l.length ∧ Below w.heap.size w Y)
      case atStart => exact ⟨0, m1, rfl, by rw [a1], hid (by rw [part_zero]; rfl), by omega, HB.out⟩
      case round =>
        rename World => Y
        obtain ⟨k, n, rfl, rfl, HN, hkg, hb2⟩ := hrel
        have HB2 := hid hb2
        clear hb2
        by_cases hk : k < l.length
        · obtain ⟨bt, ot, av, it, c0, c1, c2, c3, pa⟩ := (HT.out.below HB2.out (Nat.le_refl _)).at (P := Tryz.prog) k hk 22 59 gT gsT
          obtain ⟨ao, an, ac, rfl⟩ : ∃ ao an ac, av = .slice ao an ac := by obtain ⟨⟨x, c, h, _⟩, _⟩ := pa; exact ⟨_, _, _, h⟩
          have hal : l[k].attrs.length ≤ 281474976710656 := Row.le pa
          have plen := fun X => pa.len (P := Tryz.prog) 57 3 56 gP X
          have HS2 := hid (part_succ tokAdd l k hk)
          have HLE2 : Hid (m1 + part tokAdd l (k + 1) ≤ 1000000000) := hid (by have := part_le tokAdd l (k + 1); have := HS.out; have := HLE.out; have := HMI.out; have := HLL.out; have := HM1.out; omega)
          generalize hht : l[k] = t at *
          have HTA : Hid (tokAdd t = t.s.length + (t.attrs.map prMass).sum) := hid rfl
          have ts := text_size t.s
          obtain ⟨n1, hn1⟩ : ∃ n1, n1 = n + t.s.length := ⟨_, rfl⟩
          have a2 := add64 n t.s.length n1 hn1 (by have := HS2.out; have := HLE2.out; have := HN.out; have := HTA.out; omega)
          have HN1 := hid hn1
          have PA := hid pa
          have H2 := hid (ba (b0 Y) (.cells #[.int .i64 t.kind, .int .i64 t.place, .string (text t.s), .slice ao an ac] 59))
          have HHT := hid hht
          clear pa hht hn1
          generalize hG2 : gk = G2 at *
          clear hG2
          go_wp2_with fail
          go_loopg [34, 3] t.attrs.length (fun g iv nv Z => ∃ q p : Nat, iv = .int .i64 q ∧ nv = .int .i64 p ∧ Hid (p = n1 + part prMass t.attrs q) ∧ q + g = t.attrs.length ∧ Below Y.heap.size Y Z)
          case atStart => exact ⟨0, n1, rfl, by rw [a2], hid (by rw [part_zero]; rfl), by omega, H2.out⟩
          case round =>
            rename World => Z
            obtain ⟨q, p, rfl, rfl, HP, hqg, hb4⟩ := hrel
            have HB4 := hid hb4
            clear hb4
            by_cases hq : q < t.attrs.length
            · obtain ⟨ba1, oa, ia1, d0, d1, d2⟩ := (PA.out.below HB4.out (Nat.le_refl _)).at (P := Tryz.prog) q hq 57 56 gP gsP
              have HS3 := hid (part_succ prMass t.attrs q hq)
              have HLE3 : Hid (n1 + part prMass t.attrs (q + 1) ≤ 1000000000) := hid (by have := part_le prMass t.attrs (q + 1); have := HS2.out; have := HLE2.out; have := HN.out; have := HTA.out; have := HN1.out; omega)
              generalize t.attrs[q] = z at *
              have hpm : prMass z = 1 + z.name.length + z.value.length := rfl
              have ns := text_size z.name
              have vs := text_size z.value
              obtain ⟨p1, hp1⟩ : ∃ p1, p1 = 1 + z.name.length := ⟨_, rfl⟩
              obtain ⟨p2, hp2⟩ : ∃ p2, p2 = p1 + z.value.length := ⟨_, rfl⟩
              obtain ⟨p3, hp3⟩ : ∃ p3, p3 = p + p2 := ⟨_, rfl⟩
              have h3 := HS3.out
              have h4 := HLE3.out
              have h5 := HP.out
              have a3 : wrap64 (1 + (z.name.length : Int)) = (p1 : Int) := add64 1 z.name.length p1 hp1 (by omega)
              have a4 := add64 p1 z.value.length p2 hp2 (by omega)
              have a5 := add64 p p2 p3 hp3 (by rw [sum4 hp1 hp2 hp3 h5 h3 hpm]; exact Nat.le_trans h4 (by decide))
              have HP3 : Hid (p3 = n1 + part prMass t.attrs (q + 1)) := hid (sum4 hp1 hp2 hp3 h5 h3 hpm)
              have HB5 := hid (HB4.out.alloc HB4.out.size (.cells #[.int .i64 z.place, .string (text z.name), .string (text z.value)] 56))
              clear c0 c1 c2 c3 hp1 hp2 hp3 h3 h4 h5 hpm
              go_wp2
              go_roundg (gk - 1)
              case measure => omega
              case rel => exact ⟨q + 1, p3, by go_num, by rw [a5], HP3, by omega, HB5.out⟩
            · have HALL : Hid (p = m1 + part tokAdd l (k + 1)) := hid (by
                have hz : q = t.attrs.length := by omega
                have h1 := HP.out
                rw [hz, part_all] at h1
                have := HS2.out; have := HTA.out; have := HN1.out; have := HN.out
                omega)
              have HBB := hid (HB2.out.trans (HB4.out.mono HB2.out.size))
              clear c0 c1 c2 c3
              go_wp2
              go_roundg (G2 - 1)
              case measure => omega
              case rel => exact ⟨k + 1, p, by go_num, rfl, HALL, by omega, HBB.out⟩
        · have HALL : Hid (n = part (fun x : Value × List Tok => toksMass x.2) rows (i + 1)) := hid (by
            have hz : k = l.length := by omega
            have h1 := HN.out
            rw [hz, part_all] at h1
            have := HS.out; have := HLL.out; have := HM1.out; have := HMI.out
            omega)
          go_wp2
          go_roundg (G - 1)
          case measure => omega
          case rel => exact ⟨i + 1, n, by go_num, rfl, HALL, by omega, HB2.out⟩
    · have hz : m = rowsMass rows := by
        have h1 := HMI.out
        rw [show i = rows.length from by omega, part_all] at h1
        exact h1
      have hd : decide ((3000 : Int) < (m : Int)) = decide (3000 < rowsMass rows) := by
        rw [← hz]
        by_cases h : 3000 < m
        · rw [decide_eq_true h, decide_eq_true (by omega)]
        · rw [decide_eq_false h, decide_eq_false (by omega)]
      have HD := hid hd
      clear hd hz
      go_wp2
      go_ret
      refine ⟨?_, HB.out⟩
      rw [← HD.out]
      rfl
end Go.Proofs.YtlinmeafofmmoaaGreatDoor.Tok
namespace Go.Proofs.YtlinmeafofmmoaaGreatDoor.Tok
open Go Go.Proofs.YtlinmeafofmmoaaGreatDoor Go.Proofs.YtlinmeafofmmoaaGreatDoor.Utf Go.Proofs.YtlinmeafofmmoaaGreatDoor.Names Go.Proofs.YtlinmeafofmmoaaGreatDoor.Ent Go.RowKit
set_option maxRecDepth 100000

theorem keyA_bare : ∀ (p q : List Pr), p.map Pr.bare = q.map Pr.bare → p.map (keyA false) = q.map (keyA false)
  | [], [], _ => rfl
  | [], d :: q, h => by cases h
  | c :: p, [], h => by cases h
  | c :: p, d :: q, h => by
    simp only [List.map_cons, List.cons.injEq] at h
    simp only [List.map_cons, List.cons.injEq]
    refine ⟨?_, keyA_bare p q h.2⟩
    have := h.1
    unfold Pr.bare at this
    injection this with f1 f2
    unfold keyA
    rw [f1, f2]; rfl
theorem keyT_bare {x t : Tok} (h : x.bare = t.bare) : keyT false x = keyT false t := by
  unfold Tok.bare at h
  injection h with e1 e2
  injection e2 with e2 e3
  unfold keyT
  rw [e1, e2, keyA_bare _ _ e3]; rfl
theorem same_bare {a b : List Tok} (h : a.map Tok.bare = b.map Tok.bare) : sameB false a b = true := by
  have hl : a.length = b.length := by simpa using congrArg List.length h
  exact sameB_yes hl (fun i h1 h2 => keyT_bare (map_get _ h i h1 h2))
theorem wr_err : ∀ (l : List Tok) (ahead : Int) (i e : Nat), wr ahead l = .bad i e → e ≠ 0
  | [], ahead, i, e, h => by unfold wr at h; cases h
  | t :: r, ahead, i, e, h => by
    cases ht : tokW ahead t with
    | bad j x =>
      rw [wr_bad ht] at h
      injection h with _ h
      rw [← h]; exact tokW_bad ht
    | ok u n =>
      rw [wr_ok ht] at h
      cases hr : wr t.kind r with
      | bad j x =>
        rw [hr] at h
        unfold joinR at h
        injection h with _ h
        rw [← h]; exact wr_err r _ _ _ hr
      | ok s m => rw [hr] at h; cases h
theorem wr_len : ∀ (l : List Tok) (ahead : Int) (b : List UInt8) (n : Nat), wr ahead l = .ok b n → b.length ≤ costT l
  | [], ahead, b, n, h => by unfold wr at h; injection h with h _; subst h; simp
  | t :: r, ahead, b, n, h => by
    cases ht : tokW ahead t with
    | bad j x => rw [wr_bad ht] at h; cases h
    | ok u k =>
      have hu := tokW_len ht
      rw [wr_ok ht] at h
      cases hr : wr t.kind r with
      | bad j x => rw [hr] at h; cases h
      | ok s m =>
        have ih := wr_len r _ _ _ hr
        rw [hr] at h
        unfold joinR at h
        injection h with h _
        subst h
        rw [List.length_append, costT]
        omega
theorem costA_mass : ∀ l : List Pr, costA l ≤ 20 * prsMass l
  | [] => by simp [costA]
  | p :: l => by
    have := costA_mass l
    unfold prsMass at this ⊢
    simp only [costA, List.map_cons, List.sum_cons]
    have h1 : prMass p = 1 + p.name.length + p.value.length := rfl
    omega
theorem costT_mass : ∀ l : List Tok, costT l ≤ 20 * toksMass l
  | [] => by simp [costT]
  | t :: l => by
    have h1 := costT_mass l
    have h2 := costA_mass t.attrs
    unfold toksMass at h1 ⊢
    simp only [costT, List.map_cons, List.sum_cons]
    have h3 : tokMass t = 1 + t.s.length + prsMass t.attrs := rfl
    omega
theorem mem_sum {α : Type} (f : α → Nat) (l : List α) (x : α) (h : x ∈ l) : f x ≤ (l.map f).sum := by
  induction l with
  | nil => cases h
  | cons y l ih =>
    simp only [List.map_cons, List.sum_cons]
    rcases List.mem_cons.1 h with rfl | h
    · omega
    · have := ih h; omega
theorem fit_mass {l : List Tok} {n : Nat} (h : toksMass l ≤ n) (hn : n ≤ 1000000) : l.length ≤ 1000000 ∧ ∀ t ∈ l, FitT t := by
  have := toks_len l
  refine ⟨by omega, fun t ht => ?_⟩
  have h1 := mem_sum tokMass l t ht
  have h2 : tokMass t ≤ n := by unfold toksMass at h; omega
  have h3 := prs_len t.attrs
  unfold tokMass at h2
  refine ⟨by omega, by omega, fun p hp => ?_⟩
  have h4 := mem_sum prMass t.attrs p hp
  unfold prMass at h4
  have h5 : (t.attrs.map prMass).sum = prsMass t.attrs := rfl
  unfold prMass at h5
  omega

set_option maxHeartbeats 4000000 in
theorem XmltokBack_walk (v : Value) (l : List Tok) (W : World) (hT : Toks W v l) (hm : toksMass l ≤ 1048576) (hw : FitM W) :
    Calls Tryz.prog 4 #[v] W fun e w' => e = .returned (.bool true) ∧ Below W.heap.size W w' := by
  have AL := hid alive_any
  have HW := hid hw
  obtain ⟨vo, vn, vc, rfl⟩ : ∃ o n c, v = .slice o n c := by obtain ⟨r, _, ⟨⟨a, c, h, _⟩, _⟩, _⟩ := hT; exact ⟨_, _, _, h⟩
  have HT := hid hT
  have GR := hid (fun (X : World) (hX : Below W.heap.size W X) => Great_any [(.slice vo vn vc, l)] (.slice (some ⟨X.heap.size, 0, none⟩) 1 1) (X.alloc (.cells #[.slice vo vn vc] 22)) (Row.ofBuild (sz := 1) X #[.slice vo vn vc] 22 1 rfl (by omega)) (fun x hx => by
    simp only [List.mem_cons, List.mem_nil_iff, or_false] at hx
    subst hx
    exact (HT.out.below hX (Nat.le_refl _)).below (ba (b0 X) _) (Nat.le_refl _)) (by simp [rowsMass]; omega))
  have hrm : rowsMass [(Value.slice vo vn vc, l)] = toksMass l := by simp [rowsMass]
  rw [hrm] at GR
  clear hw hT hrm
  by_cases hg : 3000 < toksMass l
  · have hd : decide (3000 < toksMass l) = true := decide_eq_true hg
    rw [hd] at GR
    clear hd hg hm
    go_enter Tryz.func4, Tryz.ntmps4
    go_wp2_with fail
    refine (AL.out _ HW.out).mono ?_
    rintro e w1 ⟨rfl, hb1⟩
    have HB1 := hid hb1
    clear hb1
    go_wp2_with fail
    refine (GR.out w1 HB1.out).mono ?_
    rintro e w2 ⟨rfl, hb2⟩
    have HB2 := hid (bt HB1.out ((ba (b0 w1) _).trans (hb2.mono (by simp))))
    clear hb2
    go_wp2_with fail
    refine (AL.out _ (HW.out.below HB2.out)).mono ?_
    rintro e w3 ⟨rfl, hb3⟩
    go_wp2
    go_ret
    exact ⟨rfl, bt HB2.out hb3⟩
  have hd : decide (3000 < toksMass l) = false := decide_eq_false hg
  rw [hd] at GR
  clear hd
  have hmm : toksMass l ≤ 3000 := by omega
  have hfit := fit_mass hmm (by omega)
  have hcost := costT_mass l
  have WR := hid (fun (X : World) (hX : Below W.heap.size W X) => Write_any (HT.out.below hX (Nat.le_refl _)) hfit.1 hfit.2 (by omega))
  have HLL := hid (show l.length ≤ 281474976710656 by have := hfit.1; omega)
  cases hwr : wr (-1) l with
  | bad i x =>
    rw [hwr] at WR
    dsimp only [outW] at WR
    have hx := wr_err _ _ _ _ hwr
    have hx1 : ((x : Int) == 0) = false := by rw [beq_eq_false_iff_ne]; omega
    have hx2 : ((x : Int) != 0) = true := by rw [bne, hx1]; rfl
    clear hwr hfit hcost hx hm hg
    go_enter Tryz.func4, Tryz.ntmps4
    go_wp2_with fail
    refine (AL.out _ HW.out).mono ?_
    rintro e w1 ⟨rfl, hb1⟩
    have HB1 := hid hb1
    clear hb1
    go_wp2_with fail
    refine (GR.out w1 HB1.out).mono ?_
    rintro e w2 ⟨rfl, hb2⟩
    have HB2 := hid (bt HB1.out ((ba (b0 w1) _).trans (hb2.mono (by simp))))
    clear hb2
    go_wp2_with fail
    refine (WR.out w2 HB2.out).mono ?_
    rintro e w3 ⟨⟨bv, rfl, hbv⟩, hb3⟩
    have blen := fun X => hbv.len (P := Tryz.prog) 25 3 5 underB X
    simp only [List.length_nil] at blen
    have HB3 := hid (bt HB2.out hb3)
    clear hbv hb3
    go_wp2
    go_ret
    exact ⟨rfl, HB3.out⟩
  | ok bs n =>
    rw [hwr] at WR
    dsimp only [outW] at WR
    have hbl := wr_len _ _ _ _ hwr
    obtain ⟨ts, ht1, ht2⟩ := tokens_back hwr (by omega)
    have TK := fun X v' (hX : Below W.heap.size W X) (hv : Bytes X v' bs) => Tokens_any hv (HW.out.below hX) (by omega)
    rw [ht1] at TK
    dsimp only at TK
    have KK := hid TK
    have HS := hid (same_bare ht2.symm)
    clear TK ht1 ht2 hbl hwr hfit hcost hm hg
    go_enter Tryz.func4, Tryz.ntmps4
    go_wp2_with fail
    refine (AL.out _ HW.out).mono ?_
    rintro e w1 ⟨rfl, hb1⟩
    have HB1 := hid hb1
    clear hb1
    go_wp2_with fail
    refine (GR.out w1 HB1.out).mono ?_
    rintro e w2 ⟨rfl, hb2⟩
    have HB2 := hid (bt HB1.out ((ba (b0 w1) _).trans (hb2.mono (by simp))))
    clear hb2
    go_wp2_with fail
    refine (WR.out w2 HB2.out).mono ?_
    rintro e w3 ⟨⟨bv, rfl, hbv⟩, hb3⟩
    have blen := fun X => hbv.len (P := Tryz.prog) 25 3 5 underB X
    have HB3 := hid (bt HB2.out hb3)
    have HBV := hid hbv
    clear hbv hb3
    go_wp2_with fail
    refine (KK.out _ _ HB3.out HBV.out).mono ?_
    rintro e w4 ⟨⟨tv, rfl, htv⟩, hb4⟩
    have HB4 := hid (bt HB3.out hb4)
    have rs := RSame_any false l ts (.slice vo vn vc) tv w4 (HT.out.below HB4.out (Nat.le_refl _)) htv HLL.out
    rw [HS.out] at rs
    have RS := hid rs
    clear htv hb4 rs
    go_wp2_with fail
    refine RS.out.mono ?_
    rintro e w5 ⟨rfl, hb5⟩
    go_wp2
    go_ret
    exact ⟨rfl, bt HB4.out hb5⟩
end Go.Proofs.YtlinmeafofmmoaaGreatDoor.Tok
