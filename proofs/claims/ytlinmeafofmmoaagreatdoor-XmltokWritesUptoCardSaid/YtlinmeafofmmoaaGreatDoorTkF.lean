/- Layer 4: contract of the document's own Same. -/
import Derived.Test.YtlinmeafofmmoaaGreatDoorTkB
import Derived.Test.YtlinmeafofmmoaaGreatDoorNamesA
import Derived.Deep.LoopGhost
import Derived.Deep.QuietTactic
import Derived.BigQuiet
set_option linter.unusedVariables false
set_option linter.unusedSimpArgs false
namespace Go.Proofs.YtlinmeafofmmoaaGreatDoor.Tok
open Go Go.Proofs.YtlinmeafofmmoaaGreatDoor Go.Proofs.YtlinmeafofmmoaaGreatDoor.Utf Go.Proofs.YtlinmeafofmmoaaGreatDoor.Names Go.Proofs.YtlinmeafofmmoaaGreatDoor.Ent Go.RowKit
set_option maxRecDepth 100000

/-- What is held against each other, with places or without. -/
def keyA (p : Bool) (a : Pr) : List UInt8 × List UInt8 × Int := (a.name, a.value, if p = true then a.place else 0)
def keyT (p : Bool) (t : Tok) : Int × List UInt8 × Int × List (List UInt8 × List UInt8 × Int) := (t.kind, t.s, if p = true then t.place else 0, t.attrs.map (keyA p))
open Classical in
noncomputable def sameB (p : Bool) (a b : List Tok) : Bool := decide (a.map (keyT p) = b.map (keyT p))
theorem map_get {α β : Type} (f : α → β) {a b : List α} (h : a.map f = b.map f) (i : Nat) (h1 : i < a.length) (h2 : i < b.length) : f a[i] = f b[i] := by
  have := congrArg (fun l => l[i]?) h
  simpa [h1, h2] using this
theorem map_all {α β : Type} (f : α → β) {a b : List α} (hl : a.length = b.length) (h : ∀ i (h1 : i < a.length) (h2 : i < b.length), f a[i] = f b[i]) : a.map f = b.map f := by
  apply List.ext_getElem
  · simpa using hl
  · intro i h1 h2
    simpa using h i (by simpa using h1) (by simpa using h2)
open Classical in
theorem sameB_len {p : Bool} {a b : List Tok} (h : a.length ≠ b.length) : sameB p a b = false := by
  unfold sameB
  rw [decide_eq_false]
  intro e
  have := congrArg List.length e
  simp at this
  exact h this
open Classical in
theorem sameB_no {p : Bool} {a b : List Tok} (i : Nat) (h1 : i < a.length) (h2 : i < b.length) (h : keyT p a[i] ≠ keyT p b[i]) : sameB p a b = false := by
  unfold sameB
  rw [decide_eq_false]
  exact fun e => h (map_get _ e i h1 h2)
open Classical in
theorem sameB_yes {p : Bool} {a b : List Tok} (hl : a.length = b.length) (h : ∀ i (h1 : i < a.length) (h2 : i < b.length), keyT p a[i] = keyT p b[i]) : sameB p a b = true := by
  unfold sameB
  rw [decide_eq_true]
  exact map_all _ hl h
theorem text_eq (a b : List UInt8) : ((text a).toList == (text b).toList) = decide (a = b) := by
  rw [Names.text_list, Names.text_list]
  by_cases h : a = b
  · rw [decide_eq_true h, beq_iff_eq]; exact h
  · rw [decide_eq_false h, beq_eq_false_iff_ne]; exact h

theorem undTs : Tryz.prog.underlying 22 = some (.slice 59) := Tryz.underlying22
theorem undPs : Tryz.prog.underlying 57 = some (.slice 56) := Tryz.underlying57
theorem sizT (W : World) : (sizeOf 59).run Tryz.prog W = .ok 4 W := Tryz.sizeOf59 W
theorem sizP (W : World) : (sizeOf 56).run Tryz.prog W = .ok 3 W := Tryz.sizeOf56 W

set_option maxHeartbeats 8000000 in
theorem RSame_any (p : Bool) (la lb : List Tok) (va vb : Value) (w : World) (ha : Toks w va la) (hb : Toks w vb lb) (hla : la.length ≤ 281474976710656) :
    Calls Tryz.prog 14 #[va, vb, .bool p] w fun e w' => e = .returned (.bool (sameB p la lb)) ∧ Below w.heap.size w w' := by
  have lena := fun X => ha.len (P := Tryz.prog) 22 3 59 undTs X
  have lenb := fun X => hb.len (P := Tryz.prog) 22 3 59 undTs X
  by_cases hl : la.length = lb.length
  · have hq : ((la.length : Int) == (lb.length : Int)) = true := by rw [beq_iff_eq]; omega
    have HA := hid ha
    have HB := hid hb
    have HL := hid hl
    rw [← hl] at lenb
    clear ha hb hq hl
    go_enter Tryz.func14, Tryz.ntmps14
    go_wp2_with fail
    go_loopg [7] la.length (fun g iv wr => ∃ n : Nat, iv = .int .i64 n ∧ n + g = la.length ∧ Hid (∀ i (h1 : i < la.length) (h2 : i < lb.length), i < n → keyT p la[i] = keyT p lb[i]) ∧ Below w.heap.size w wr)
    case atStart => exact ⟨0, rfl, by omega, hid (fun i _ _ h => absurd h (by omega)), b0 w⟩
    case round =>
      obtain ⟨n, rfl, hng, HP, hbw⟩ := hrel
      have HBW := hid hbw
      clear hbw
      by_cases hn : n < la.length
      · have hn2 : n < lb.length := by have := HL.out; omega
        have taA := HA.out.below HBW.out (Nat.le_refl _)
        have tbA := HB.out.below HBW.out (Nat.le_refl _)
        obtain ⟨ba1, oa, aa, ia, ka0, ka1, ka2, ka3, pa⟩ := taA.at (P := Tryz.prog) n hn 22 59 undTs sizT
        obtain ⟨bb1, ob, ab, ib, kb0, kb1, kb2, kb3, pb⟩ := tbA.at (P := Tryz.prog) n hn2 22 59 undTs sizT
        have plena := fun X => pa.len (P := Tryz.prog) 57 3 56 undPs X
        have plenb := fun X => pb.len (P := Tryz.prog) 57 3 56 undPs X
        have HNO := hid (fun (h : keyT p la[n] ≠ keyT p lb[n]) => sameB_no (p := p) n hn hn2 h)
        have HNX := hid (fun (h : keyT p la[n] = keyT p lb[n]) i (h1 : i < la.length) (h2 : i < lb.length) (h3 : i < n + 1) => (by
          by_cases e : i = n
          · subst e; exact h
          · exact HP.out i h1 h2 (by omega) : keyT p la[i] = keyT p lb[i]))
        unfold keyT at HNO HNX
        generalize hG : gk = G at *
        clear hG
        generalize hA : la[n] = A at *
        generalize hB : lb[n] = B at *
        have HGA := hid hA
        have HGB := hid hB
        clear hA hB taA tbA
        by_cases hk : A.kind = B.kind
        · have kk : (A.kind == B.kind) = true := by rw [beq_iff_eq]; exact hk
          have kk2 : (A.kind != B.kind) = false := by rw [bne, kk]; rfl
          have HK := hid hk
          clear hk
          by_cases hs : A.s = B.s
          · have ss : ((text A.s).toList == (text B.s).toList) = true := by rw [text_eq, decide_eq_true hs]
            have ss2 : ((text A.s).toList != (text B.s).toList) = false := by rw [bne, ss]; rfl
            have HS := hid hs
            clear hs
            by_cases hm : A.attrs.length = B.attrs.length
            · have mm : ((A.attrs.length : Int) == (B.attrs.length : Int)) = true := by rw [beq_iff_eq]; omega
              have mm2 : ((A.attrs.length : Int) != (B.attrs.length : Int)) = false := by rw [bne, mm]; rfl
              have HM := hid hm
              clear hm
              cases p
              case true =>
                by_cases hpl : A.place = B.place
                · have ll : (A.place == B.place) = true := by rw [beq_iff_eq]; exact hpl
                  have ll2 : (A.place != B.place) = false := by rw [bne, ll]; rfl
                  have HPL := hid hpl
                  clear hpl
                  go_wp2_with fail
                  go_quiet (fail)
                  clear ia ib ka0 ka1 ka2 ka3 kb0 kb1 kb2 kb3 pa pb plena plenb mm kk ss mm2 kk2 ss2
                  go_wp2_with fail
                  go_loopg [8] A.attrs.length (fun g kv w2 => ∃ q : Nat, kv = .int .i64 q ∧ q + g = A.attrs.length ∧ Hid (∀ i (h1 : i < A.attrs.length) (h2 : i < B.attrs.length), i < q → keyA true A.attrs[i] = keyA true B.attrs[i]) ∧ Below w.heap.size w w2)
                  case atStart => exact ⟨0, rfl, by omega, hid (fun i _ _ h => absurd h (by omega)), below_drewN HBW.out _⟩
                  case round =>
                    rename World => w2
                    obtain ⟨q, rfl, hqg, HQ, hb2⟩ := hrel
                    have HB2 := hid hb2
                    clear hb2
                    obtain ⟨ba1, oa, aa, ia, ka0, ka1, ka2, ka3, pa⟩ := (HA.out.below HB2.out (Nat.le_refl _)).at (P := Tryz.prog) n hn 22 59 undTs sizT
                    rw [HGA.out] at pa
                    have plena := fun X => pa.len (P := Tryz.prog) 57 3 56 undPs X
                    have hal : A.attrs.length ≤ 281474976710656 := Row.le pa
                    by_cases hq : q < A.attrs.length
                    · have hq2 : q < B.attrs.length := by have := HM.out; omega
                      obtain ⟨bp, op, ip, cp0, cp1, cp2⟩ := pa.at (P := Tryz.prog) q hq 57 56 undPs sizP
                      have HKX := hid (fun (h : keyA true A.attrs[q] ≠ keyA true B.attrs[q]) => HNO.out (fun e => h (map_get _ (congrArg (fun x => x.2.2.2) e) q hq hq2)))
                      have HKN := hid (fun (h : keyA true A.attrs[q] = keyA true B.attrs[q]) i (h1 : i < A.attrs.length) (h2 : i < B.attrs.length) (h3 : i < q + 1) => (by
                        by_cases e : i = q
                        · subst e; exact h
                        · exact HQ.out i h1 h2 (by omega) : keyA true A.attrs[i] = keyA true B.attrs[i]))
                      have hb3 := HB2.out.trans ((ba (b0 w2) (.cells #[.int .i64 A.attrs[q].place, .string (text A.attrs[q].name), .string (text A.attrs[q].value)] 56)).mono HB2.out.size)
                      obtain ⟨bb1, ob, ab, ib, kb0, kb1, kb2, kb3, pb⟩ := (HB.out.below hb3 (Nat.le_refl _)).at (P := Tryz.prog) n hn2 22 59 undTs sizT
                      rw [HGB.out] at pb
                      obtain ⟨bq, oq, iq, cq0, cq1, cq2⟩ := pb.at (P := Tryz.prog) q hq2 57 56 undPs sizP
                      unfold keyA at HKX HKN
                      generalize hpx : A.attrs[q] = x at *
                      generalize hpy : B.attrs[q] = y at *
                      clear hpx hpy pa pb hb3 ka0 ka1 ka2 kb0 kb1 kb2
                      have hb4 := HB2.out.trans ((ba (ba (b0 w2) (.cells #[.int .i64 x.place, .string (text x.name), .string (text x.value)] 56)) (.cells #[.int .i64 y.place, .string (text y.name), .string (text y.value)] 56)).mono HB2.out.size)
                      have HB4 := hid hb4
                      clear hb4
                      by_cases hnm : x.name = y.name
                      · have nn : ((text x.name).toList == (text y.name).toList) = true := by rw [text_eq, decide_eq_true hnm]
                        have nn2 : ((text x.name).toList != (text y.name).toList) = false := by rw [bne, nn]; rfl
                        have HN := hid hnm
                        clear hnm
                        by_cases hvl : x.value = y.value
                        · have vv : ((text x.value).toList == (text y.value).toList) = true := by rw [text_eq, decide_eq_true hvl]
                          have vv2 : ((text x.value).toList != (text y.value).toList) = false := by rw [bne, vv]; rfl
                          have HV := hid hvl
                          clear hvl
                          by_cases hpl : x.place = y.place
                          · have ll : (x.place == y.place) = true := by rw [beq_iff_eq]; exact hpl
                            have ll2 : (x.place != y.place) = false := by rw [bne, ll]; rfl
                            have HL2 := hid hpl
                            clear hpl
                            go_wp2
                            go_roundg (gk - 1)
                            case measure => omega
                            case rel => exact ⟨q + 1, by go_num, by omega, hid (HKN.out (by rw [HN.out, HV.out, HL2.out])), HB4.out⟩
                          · have ll : (x.place == y.place) = false := by rw [beq_eq_false_iff_ne]; exact hpl
                            have ll2 : (x.place != y.place) = true := by rw [bne, ll]; rfl
                            have R := hid (HKX.out (fun e => hpl (by have := congrArg (fun x => x.2.2) e; simpa using this)))
                            clear hpl
                            go_wp2
                            go_ret
                            exact ⟨by rw [R.out]; rfl, HB4.out⟩
                        · have vv : ((text x.value).toList == (text y.value).toList) = false := by rw [text_eq, decide_eq_false hvl]
                          have vv2 : ((text x.value).toList != (text y.value).toList) = true := by rw [bne, vv]; rfl
                          have R := hid (HKX.out (fun e => hvl (by have := congrArg (fun x => x.2.1) e; simpa using this)))
                          clear hvl
                          go_wp2
                          go_ret
                          exact ⟨by rw [R.out]; rfl, HB4.out⟩
                      · have nn : ((text x.name).toList == (text y.name).toList) = false := by rw [text_eq, decide_eq_false hnm]
                        have nn2 : ((text x.name).toList != (text y.name).toList) = true := by rw [bne, nn]; rfl
                        have R := hid (HKX.out (fun e => hnm (by have := congrArg (fun x => x.1) e; simpa using this)))
                        clear hnm
                        go_wp2
                        go_ret
                        exact ⟨by rw [R.out]; rfl, HB4.out⟩
                    · have HE := hid (HNX.out (by
                        have e4 : A.attrs.map (keyA true) = B.attrs.map (keyA true) := map_all _ HM.out (fun i h1 h2 => HQ.out i h1 h2 (by omega))
                        rw [HK.out, HS.out, e4, HPL.out]))
                      clear pa ka0 ka1 ka2
                      go_wp2
                      go_roundg (G - 1)
                      case measure => omega
                      case rel => exact ⟨n + 1, by go_num, by omega, HE, HB2.out⟩
                · have ll : (A.place == B.place) = false := by rw [beq_eq_false_iff_ne]; exact hpl
                  have ll2 : (A.place != B.place) = true := by rw [bne, ll]; rfl
                  have R := hid (HNO.out (fun e => hpl (by have := congrArg (fun x => x.2.2.1) e; simpa using this)))
                  clear hpl
                  go_wp2_with fail
                  go_quiet (fail)
                  go_wp2
                  go_ret
                  exact ⟨by rw [R.out]; rfl, below_drewN HBW.out _⟩
              case false =>
                go_wp2_with fail
                go_quiet (fail)
                clear ia ib ka0 ka1 ka2 ka3 kb0 kb1 kb2 kb3 pa pb plena plenb mm kk ss mm2 kk2 ss2
                go_wp2_with fail
                go_loopg [8] A.attrs.length (fun g kv w2 => ∃ q : Nat, kv = .int .i64 q ∧ q + g = A.attrs.length ∧ Hid (∀ i (h1 : i < A.attrs.length) (h2 : i < B.attrs.length), i < q → keyA false A.attrs[i] = keyA false B.attrs[i]) ∧ Below w.heap.size w w2)
                case atStart => exact ⟨0, rfl, by omega, hid (fun i _ _ h => absurd h (by omega)), below_drewN HBW.out _⟩
                case round =>
                  rename World => w2
                  obtain ⟨q, rfl, hqg, HQ, hb2⟩ := hrel
                  have HB2 := hid hb2
                  clear hb2
                  obtain ⟨ba1, oa, aa, ia, ka0, ka1, ka2, ka3, pa⟩ := (HA.out.below HB2.out (Nat.le_refl _)).at (P := Tryz.prog) n hn 22 59 undTs sizT
                  rw [HGA.out] at pa
                  have plena := fun X => pa.len (P := Tryz.prog) 57 3 56 undPs X
                  have hal : A.attrs.length ≤ 281474976710656 := Row.le pa
                  by_cases hq : q < A.attrs.length
                  · have hq2 : q < B.attrs.length := by have := HM.out; omega
                    obtain ⟨bp, op, ip, cp0, cp1, cp2⟩ := pa.at (P := Tryz.prog) q hq 57 56 undPs sizP
                    have HKX := hid (fun (h : keyA false A.attrs[q] ≠ keyA false B.attrs[q]) => HNO.out (fun e => h (map_get _ (congrArg (fun x => x.2.2.2) e) q hq hq2)))
                    have HKN := hid (fun (h : keyA false A.attrs[q] = keyA false B.attrs[q]) i (h1 : i < A.attrs.length) (h2 : i < B.attrs.length) (h3 : i < q + 1) => (by
                      by_cases e : i = q
                      · subst e; exact h
                      · exact HQ.out i h1 h2 (by omega) : keyA false A.attrs[i] = keyA false B.attrs[i]))
                    have hb3 := HB2.out.trans ((ba (b0 w2) (.cells #[.int .i64 A.attrs[q].place, .string (text A.attrs[q].name), .string (text A.attrs[q].value)] 56)).mono HB2.out.size)
                    obtain ⟨bb1, ob, ab, ib, kb0, kb1, kb2, kb3, pb⟩ := (HB.out.below hb3 (Nat.le_refl _)).at (P := Tryz.prog) n hn2 22 59 undTs sizT
                    rw [HGB.out] at pb
                    obtain ⟨bq, oq, iq, cq0, cq1, cq2⟩ := pb.at (P := Tryz.prog) q hq2 57 56 undPs sizP
                    unfold keyA at HKX HKN
                    generalize hpx : A.attrs[q] = x at *
                    generalize hpy : B.attrs[q] = y at *
                    clear hpx hpy pa pb hb3 ka0 ka1 ka2 kb0 kb1 kb2
                    have hb4 := HB2.out.trans ((ba (ba (b0 w2) (.cells #[.int .i64 x.place, .string (text x.name), .string (text x.value)] 56)) (.cells #[.int .i64 y.place, .string (text y.name), .string (text y.value)] 56)).mono HB2.out.size)
                    have HB4 := hid hb4
                    clear hb4
                    by_cases hnm : x.name = y.name
                    · have nn : ((text x.name).toList == (text y.name).toList) = true := by rw [text_eq, decide_eq_true hnm]
                      have nn2 : ((text x.name).toList != (text y.name).toList) = false := by rw [bne, nn]; rfl
                      have HN := hid hnm
                      clear hnm
                      by_cases hvl : x.value = y.value
                      · have vv : ((text x.value).toList == (text y.value).toList) = true := by rw [text_eq, decide_eq_true hvl]
                        have vv2 : ((text x.value).toList != (text y.value).toList) = false := by rw [bne, vv]; rfl
                        have HV := hid hvl
                        clear hvl
                        go_wp2
                        go_roundg (gk - 1)
                        case measure => omega
                        case rel => exact ⟨q + 1, by go_num, by omega, hid (HKN.out (by rw [HN.out, HV.out]; simp)), HB4.out⟩
                      · have vv : ((text x.value).toList == (text y.value).toList) = false := by rw [text_eq, decide_eq_false hvl]
                        have vv2 : ((text x.value).toList != (text y.value).toList) = true := by rw [bne, vv]; rfl
                        have R := hid (HKX.out (fun e => hvl (by have := congrArg (fun x => x.2.1) e; simpa using this)))
                        clear hvl
                        go_wp2
                        go_ret
                        exact ⟨by rw [R.out]; rfl, HB4.out⟩
                    · have nn : ((text x.name).toList == (text y.name).toList) = false := by rw [text_eq, decide_eq_false hnm]
                      have nn2 : ((text x.name).toList != (text y.name).toList) = true := by rw [bne, nn]; rfl
                      have R := hid (HKX.out (fun e => hnm (by have := congrArg (fun x => x.1) e; simpa using this)))
                      clear hnm
                      go_wp2
                      go_ret
                      exact ⟨by rw [R.out]; rfl, HB4.out⟩
                  · have HE := hid (HNX.out (by
                      have e4 : A.attrs.map (keyA false) = B.attrs.map (keyA false) := map_all _ HM.out (fun i h1 h2 => HQ.out i h1 h2 (by omega))
                      rw [HK.out, HS.out, e4]; simp))
                    clear pa ka0 ka1 ka2
                    go_wp2
                    go_roundg (G - 1)
                    case measure => omega
                    case rel => exact ⟨n + 1, by go_num, by omega, HE, HB2.out⟩
            · have mm : ((A.attrs.length : Int) == (B.attrs.length : Int)) = false := by rw [beq_eq_false_iff_ne]; omega
              have mm2 : ((A.attrs.length : Int) != (B.attrs.length : Int)) = true := by rw [bne, mm]; rfl
              have R := hid (HNO.out (fun e => hm (by have := congrArg (fun x => x.2.2.2.length) e; simpa using this)))
              clear hm
              go_wp2_with fail
              go_quiet (fail)
              go_wp2
              go_ret
              exact ⟨by rw [R.out]; rfl, below_drewN HBW.out _⟩
          · have ss : ((text A.s).toList == (text B.s).toList) = false := by rw [text_eq, decide_eq_false hs]
            have ss2 : ((text A.s).toList != (text B.s).toList) = true := by rw [bne, ss]; rfl
            have R := hid (HNO.out (fun e => hs (by have := congrArg (fun x => x.2.1) e; simpa using this)))
            clear hs
            go_wp2_with fail
            go_quiet (fail)
            go_wp2
            go_ret
            exact ⟨by rw [R.out]; rfl, below_drewN HBW.out _⟩
        · have kk : (A.kind == B.kind) = false := by rw [beq_eq_false_iff_ne]; exact hk
          have kk2 : (A.kind != B.kind) = true := by rw [bne, kk]; rfl
          have R := hid (HNO.out (fun e => hk (by have := congrArg (fun x => x.1) e; simpa using this)))
          clear hk
          go_wp2_with fail
          go_quiet (fail)
          go_wp2
          go_ret
          exact ⟨by rw [R.out]; rfl, below_drewN HBW.out _⟩
      · have R := hid (sameB_yes (p := p) HL.out (fun i h1 h2 => HP.out i h1 h2 (by omega)))
        go_wp2
        go_ret
        exact ⟨by rw [R.out]; rfl, HBW.out⟩
  · have hq : ((la.length : Int) == (lb.length : Int)) = false := by rw [beq_eq_false_iff_ne]; omega
    have R := hid (sameB_len (p := p) hl)
    clear ha hb hl
    go_enter Tryz.func14, Tryz.ntmps14
    go_wp2
    go_ret
    exact ⟨by rw [R.out]; rfl, b0 w⟩
end Go.Proofs.YtlinmeafofmmoaaGreatDoor.Tok
