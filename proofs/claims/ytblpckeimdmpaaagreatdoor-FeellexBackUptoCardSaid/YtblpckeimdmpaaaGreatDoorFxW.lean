/- Layer 8: the walk of the statement FeellexBack. -/
import Derived.Test.YtblpckeimdmpaaaGreatDoorFxT
import Derived.Test.YtblpckeimdmpaaaGreatDoorFxF
import Derived.Test.YtblpckeimdmpaaaGreatDoorFxO
set_option linter.unusedVariables false
set_option linter.unusedSimpArgs false
namespace Go.Proofs.YtblpckeimdmpaaaGreatDoor.Fx
open Go Go.Proofs.YtblpckeimdmpaaaGreatDoor Go.Proofs.YtblpckeimdmpaaaGreatDoor.Utf Go.Proofs.YtblpckeimdmpaaaGreatDoor.Names Go.Proofs.YtblpckeimdmpaaaGreatDoor.Ent Go.Proofs.YtblpckeimdmpaaaGreatDoor.Fl Go.RowKit
set_option maxRecDepth 100000

/-- append, where a test ahead has asked for it. -/
theorem append_if {P : Program} {w : World} {ops : Array Oper} {rest : List Oper} {o : Oper} {a : Act} {Q : Exit → Act → World → Prop} (hw : Region.wanted o (yielded ops a.tmps) = true) (s x : Operand) (t : TypeId)
    (ho : o.op = .call { callee := .builtin .append, args := #[s, x], argTypes := #[t, t] })
    (base : Nat) (e : TypeId) (i : TypeInfo) (z : Value) (size bytes : Nat) (ht : P.underlying t = some (.slice e)) (hi : P.info? e = some i) (hz : i.zero = some z)
    (hsize : i.size = size) (hby : i.bytes = bytes) (hzs : z.cells.size = size) (hsz : 0 < size)
    (v : Value) (n : Nat) (xs : List Value) (hs : a.eval s = v) (hown : w.ownsRow base e size v n xs) (xv : Value) (m : Nat) (news : List Value) (hx : a.eval x = xv) (hrow : Row size w xv m news) (h1 : ∀ u ∈ news, u.oneCell' = true)
    (hbytes : (n + m) * bytes ≤ 140737488355328) (h63 : n + m ≤ maxLen) (hbase : base ≤ w.heap.size)
    (h : ∀ v' w', w'.ownsRow base e size v' (n + m) (xs ++ news) → w.grownBy w' v.ownBlock → wpList P ops Q rest (a.put o.dst v') w') : wpList P ops Q (o :: rest) a w := by
  refine wpList_step fun K hK => ?_
  rw [if_pos hw]
  obtain ⟨v', w', hrun, h2, h3⟩ := run_append_row (P := P) (w := w) base t o.type e i z size bytes ht hi hz hsize hby hzs hsz v n xs hown xv m news hrow h1 hbytes h63 hbase
  unfold Oper.wp
  simp [execOp, ho, resolve, invoke, builtin, hs, hx, hrun, Result.andThen]
  exact hK _ _ (h v' w' h2 h3)

/-- What is written so far, and which tokens it has. -/
def Back (S : List UInt8) (own : List Lz) : Prop := ∃ prs, Fl.Grown S prs ∧ own.map (fun t => (t.kind, t.s)) = prs.map (fun p => ((p.1 : Int), p.2))
theorem Back.start : Back [] [] := ⟨[], Fl.Grown.nil, rfl⟩
theorem grown_none {prs : List (Nat × List UInt8)} (h : Fl.Grown [] prs) : prs = [] := by
  obtain ⟨_, ts, h1, h2, _⟩ := h
  rw [lexp_nil] at h1
  injection h1 with h1
  have : ts = [] := by
    rcases ts with _ | ⟨a, r⟩
    · rfl
    · have := congrArg List.length h1
      simp at this
  rw [← h2, this]; rfl
theorem Back.first {own : List Lz} {t : Lz} {x : List UInt8} (h : Back [] own) (ht : textE t.kind t.s = (x, 0)) (h5 : t.kind ≠ 5) : Back x (own ++ [t]) ∧ x ≠ [] := by
  obtain ⟨prs, hg, ho⟩ := h
  have hp := grown_none hg
  subst hp
  obtain ⟨j, hj, h1, h2, h3⟩ := one_of_text ht h5
  refine ⟨⟨[(j, t.s)], Fl.Grown.first h1 h3, ?_⟩, h2⟩
  rw [List.map_append, ho]
  show _ ++ [(t.kind, t.s)] = [] ++ [((j : Int), t.s)]
  rw [hj]; rfl
theorem Back.more {S : List UInt8} {own : List Lz} {t : Lz} {x : List UInt8} (h : Back S own) (ht : textE t.kind t.s = (x, 0)) (h5 : t.kind ≠ 5) : Back (S ++ 32 :: x) (own ++ [t]) := by
  obtain ⟨prs, hg, ho⟩ := h
  obtain ⟨j, hj, h1, h2, h3⟩ := one_of_text ht h5
  refine ⟨prs ++ [(j, t.s)], hg.more h1 h3, ?_⟩
  rw [List.map_append, List.map_append, ho]
  show _ ++ [(t.kind, t.s)] = _ ++ [((j : Int), t.s)]
  rw [hj]
theorem mem_mass {t : Lz} : ∀ {l : List Lz}, t ∈ l → lexMass t ≤ lexsMass l
  | [], h => by cases h
  | y :: r, h => by
    unfold lexsMass
    simp only [List.map_cons, List.sum_cons]
    rcases List.mem_cons.1 h with rfl | h
    · omega
    · have := mem_mass h
      unfold lexsMass at this
      omega
def fin0 : Lz := ⟨5, 0, []⟩
theorem Back.done {S : List UInt8} {own : List Lz} (h : Back S own) : ∃ M : List Lx, check S = S.length ∧ lexp 0 S = .ok M ∧ sameL false (M.map lz) (own ++ [fin0]) = true ∧
    (∀ i j (hi : i < M.length) (hj : j < M.length), i < j → M[i].place < M[j].place) ∧ 0 < M.length ∧ (∀ h : M.length - 1 < M.length, M[M.length - 1].place = S.length) ∧ M.length = own.length + 1 := by
  obtain ⟨prs, ⟨hc, ts, h1, h2, h3, h4⟩, ho⟩ := h
  refine ⟨ts ++ [⟨5, S.length, []⟩], hc, h1, ?_, ?_, by simp, ?_, ?_⟩
  · refine sameL_yes ?_
    have e1 : (ts.map lz).map (keyL false) = (prs.map (fun p => ((p.1 : Int), p.2))).map (fun q => (q.1, q.2, (0 : Int))) := by
      rw [← h2, List.map_map, List.map_map, List.map_map]; rfl
    have e2 : own.map (keyL false) = (own.map (fun t => (t.kind, t.s))).map (fun q => (q.1, q.2, (0 : Int))) := by
      rw [List.map_map]; rfl
    rw [List.map_append, List.map_append, List.map_append, e1, e2, ho]
    rfl
  · have hp : (ts ++ [(⟨5, S.length, []⟩ : Lx)]).Pairwise (fun a b => a.place < b.place) := by
      rw [List.pairwise_append]
      refine ⟨h3, List.pairwise_singleton .., fun a ha b hb => ?_⟩
      rw [List.mem_singleton] at hb
      subst hb
      exact h4 a ha
    intro i j hi hj hij
    exact List.pairwise_iff_getElem.1 hp i j hi hj hij
  · intro h
    simp
  · have e := congrArg List.length ho
    have e2 := congrArg List.length h2
    simp at e e2
    simp; omega

/-- The place ahead of a number of tokens; -1: there is none. -/
def lastP (M : List Lx) (k : Nat) : Int := if k = 0 then -1 else (((M[k - 1]?).map (fun t => (t.place : Int))).getD 0)
theorem last_zero (M : List Lx) : lastP M 0 = -1 := rfl
theorem last_next {M : List Lx} {k : Nat} (h : k < M.length) : lastP M (k + 1) = (M[k].place : Int) := by
  unfold lastP
  rw [if_neg (by omega), Nat.add_sub_cancel, List.getElem?_eq_getElem h]; rfl
theorem last_less {M : List Lx} (hp : ∀ i j (hi : i < M.length) (hj : j < M.length), i < j → M[i].place < M[j].place) {k : Nat} (h : k < M.length) : lastP M k < (M[k].place : Int) := by
  unfold lastP
  by_cases h0 : k = 0
  · rw [if_pos h0]; omega
  · rw [if_neg h0, List.getElem?_eq_getElem (by omega)]
    have := hp (k - 1) k (by omega) h (by omega)
    show (M[k - 1].place : Int) < _
    omega

set_option maxHeartbeats 8000000 in
theorem FeellexBack_walk (v : Value) (l : List Lz) (w : World) (hT : Lexs w v l) (hm : lexsMass l ≤ 1048576) (hF : Fit w) :
    Calls Tryz.prog 5 #[v] w fun e w' => e = .returned (.bool true) ∧ Below w.heap.size w w' := by
  obtain ⟨i0, hi, hz0, hz1, hz2⟩ := info_parts infoLex
  have HF := hid hF
  have HT := hid hT
  have hlen0 := fun W => hT.len (P := Tryz.prog) 23 3 32 undLs W
  have hll := lexs_len l
  have hsl : ∀ t ∈ l, t.s.length ≤ 1048576 := by
    intro t ht
    have := mem_mass ht
    unfold lexMass at this
    omega
  have HSL := hid hsl
  clear hF hT hsl
  by_cases hb : 100 < l.length
  · have hbb : (100 : Int) < (l.length : Int) := by omega
    go_enter Tryz.func5, Tryz.ntmps5
    go_wp2_with fail
    refine (alive_any _ HF.out).mono ?_
    rintro e w1 ⟨rfl, hb1⟩
    go_wp2_with fail
    refine (alive_any _ (HF.out.below hb1 (Nat.le_refl _))).mono ?_
    rintro e w2 ⟨rfl, hb2⟩
    go_wp2
    go_ret
    exact ⟨rfl, bt hb1 hb2⟩
  have hbb : ¬ (100 : Int) < (l.length : Int) := by omega
  go_enter Tryz.func5, Tryz.ntmps5
  go_wp2_with fail
  refine (alive_any _ HF.out).mono ?_
  rintro e w1 ⟨rfl, hb1⟩
  have HF1 := hid (HF.out.below hb1 (Nat.le_refl _))
  have HT1 := hid (HT.out.below hb1 (Nat.le_refl _))
  have HB1 := hid hb1
  clear hb1
  go_wp2_with fail
  go_loopw [3, 4, 25] (fun sv ov iv wr => ∃ (k : Nat) (S : List UInt8) (own : List Lz), iv = .int .i64 k ∧ sv = .string (text S) ∧ k ≤ l.length ∧ OwnL w1.heap.size wr ov own ∧ Below w1.heap.size w1 wr ∧ Hid (Back S own) ∧ own.length ≤ k ∧ S.length ≤ 201 * k) (fun _ _ iv _ => l.length - (intOf iv).toNat)
  case atStart => exact ⟨0, [], [], rfl, rfl, Nat.zero_le _, OwnL.nil _ _, b0 w1, hid Back.start, by simp, by simp⟩
  case round =>
    rename World => wr
    obtain ⟨k, S, own, rfl, rfl, hk, how, hbr, HBK, hok, hSk⟩ := hrel
    have hzr : w1.heap.size ≤ wr.heap.size := hbr.size
    by_cases hlt : k < l.length
    · obtain ⟨bb, ob, hib, k0, k1, k2⟩ := (HT1.out.below hbr (Nat.le_refl _)).pick k (k : Int) rfl l[k] (by simp [hlt])
      have hs1 := HSL.out l[k] (List.getElem_mem hlt)
      generalize l[k] = q at *
      obtain ⟨kk, pp, ss⟩ := q
      dsimp only at k0 k1 k2 hs1
      have HOw := hid how
      have HBR := hid hbr
      have hba := ba (b0 wr) (.cells (tokV kk pp ss) 32)
      have hFa := HF1.out.below (hbr.trans (hba.mono hzr)) (Nat.le_refl _)
      have htx := Text_any pp ss (by omega) (wr.alloc (.cells (tokV kk pp ss) 32)) hFa.2 kk
      have htc := fun w2 hb => tok_cells kk pp ss (w := wr) (w1 := w2) hb
      have htp := fun w2 (hb : Below (wr.alloc (.cells (tokV kk pp ss) 32)).heap.size (wr.alloc (.cells (tokV kk pp ss) 32)) w2) => (show w2.cell? ⟨wr.heap.size, 1, none⟩ = some (.int .i64 pp) by
        have h := (hb.block wr.heap.size (by simp)).trans (heap_alloc_new wr (.cells (tokV kk pp ss) 32))
        rw [Lib.cell_of_heap h]; rfl)
      have HTX := hid htx
      have HTC := hid htc
      have HTP := hid htp
      have HBA := hid hba
      clear hba hFa htx htc htp how hbr
      unfold tokV textV at *
      have hfirst := fun (hS : S = []) (x : List UInt8) (ht : textE kk ss = (x, 0)) (h5 : kk ≠ 5) => (by subst hS; exact HBK.out.first (t := ⟨kk, pp, ss⟩) (x := x) ht h5 : Back x (own ++ [⟨kk, pp, ss⟩]) ∧ x ≠ [])
      have hmore := fun (x : List UInt8) (ht : textE kk ss = (x, 0)) (h5 : kk ≠ 5) => HBK.out.more (t := ⟨kk, pp, ss⟩) (x := x) ht h5
      have H1 := hid hfirst
      have H2 := hid hmore
      clear hfirst hmore
      generalize textE kk ss = te at *
      obtain ⟨x, E⟩ := te
      dsimp only at HTX
      have sx : (text x).size = x.length := text_size x
      by_cases hgood : E = 0 ∧ kk ≠ 5 ∧ x.length < 200
      · obtain ⟨rfl, h5, hx200⟩ := hgood
        have q5 : (kk == 5) = false := by rw [beq_eq_false_iff_ne]; exact h5
        have q5' : (kk != 5) = true := by rw [bne, q5]; rfl
        have hx2 : (x.length : Int) < 200 := by omega
        by_cases hS : S = []
        · obtain ⟨hB, hxn⟩ := H1.out hS x rfl h5
          subst hS
          have HB := hid hB
          have e0 : ((text []).toList == ([] : List UInt8)) = true := nil_text
          have e0' : ((text []).toList != ([] : List UInt8)) = false := by rw [bne, e0]; rfl
          have ez : text [] ++ text x = text x := by rw [Names.text_append, List.nil_append]
          have sz0 : (text ([] : List UInt8)).size = 0 := rfl
          clear hB H1 H2 h5
          go_wp2_with fail
          refine HTX.out.mono ?_
          rintro e w3 ⟨rfl, hb3⟩
          obtain ⟨d0, d2⟩ := HTC.out w3 hb3
          have d1 := HTP.out w3 hb3
          have hb3w : Below wr.heap.size wr w3 := HBA.out.trans (hb3.mono (by simp))
          have hz3 := hb3w.size
          have ho3 : (w3.alloc (.cells #[.int .i64 kk, .int .i64 pp, .string (text ss)] 32)).ownsRow w1.heap.size 32 3 u4 own.length (own.flatMap lzCells) := OwnL.later HOw.out (hb3w.trans ((ba (b0 w3) _).mono hz3))
          have HRow := hid (Row.ofBuild (sz := 3) w3 #[.int .i64 kk, .int .i64 pp, .string (text ss)] 32 1 rfl (by omega))
          have HO3 := hid ho3
          have HB3 := hid (HBR.out.trans (hb3w.mono hzr))
          clear ho3 hb3 hb3w
          go_wp2_with (at_builtin; refine wpList_append_row rfl _ _ 23 rfl w1.heap.size 32 i0 _ 3 32 undLs hi hz0 hz1 hz2 rfl (by decide) _ _ _ rfl HO3.out _ 1 [.int .i64 kk, .int .i64 pp, .string (text ss)] rfl HRow.out ?d0 ?d1 ?d2 ?d3 ?_)
          case d0 => first | exact ⟨rfl, rfl, rfl⟩ | (intro u hu; simp only [List.mem_cons, List.mem_nil_iff, or_false] at hu; rcases hu with rfl | rfl | rfl <;> rfl)
          case d1 => omega
          case d2 => unfold maxLen; omega
          case d3 => first | omega | (simp; omega)
          intro v4 w4 hown4 hg4
          have hb4 : Below w1.heap.size w1 w4 := (HB3.out.alloc (by omega) _).grown hg4 (by simp; omega) (fun k hk => (HO3.out.lt k hk).1)
          have HW4 := hid (OwnL.snoc (l := own) (t := ⟨kk, pp, ss⟩) hown4)
          have HB4 := hid hb4
          clear hown4 hg4 hb4
          go_wp2_with fail
          go_roundw
          case rel => exact ⟨k + 1, x, own ++ [⟨kk, pp, ss⟩], by go_num, rfl, by omega, HW4.out, HB4.out, HB, by rw [List.length_append]; simp only [List.length_singleton]; omega, by omega⟩
          case measure => simp [intOf]; omega
        · have HB := hid (H2.out x rfl h5)
          have e0 : ((text S).toList == ([] : List UInt8)) = false := no_text hS
          have e0' : ((text S).toList != ([] : List UInt8)) = true := by rw [bne, e0]; rfl
          have ez : text S ++ (⟨#[32]⟩ : ByteArray) = text (S ++ [32]) := by rw [show (⟨#[32]⟩ : ByteArray) = text [32] from rfl, Names.text_append]
          have ey : text (S ++ [32]) ++ text x = text (S ++ 32 :: x) := by rw [Names.text_append]; simp
          have z1 : (text S).size + (⟨#[32]⟩ : ByteArray).size ≤ 9223372036854775807 := by rw [text_size, show (⟨#[32]⟩ : ByteArray).size = 1 from rfl]; omega
          have z2 : (text (S ++ [32])).size + (text x).size ≤ 9223372036854775807 := by rw [text_size, text_size]; simp; omega
          have hZl : (S ++ 32 :: x).length = S.length + (x.length + 1) := by rw [List.length_append, List.length_cons]
          generalize S ++ 32 :: x = Z at *
          generalize S ++ [32] = Y at *
          have hS2 := hid hS
          clear H1 H2 h5 hS
          go_wp2_with fail
          refine HTX.out.mono ?_
          rintro e w3 ⟨rfl, hb3⟩
          obtain ⟨d0, d2⟩ := HTC.out w3 hb3
          have d1 := HTP.out w3 hb3
          have hb3w : Below wr.heap.size wr w3 := HBA.out.trans (hb3.mono (by simp))
          have hz3 := hb3w.size
          have ho3 : (w3.alloc (.cells #[.int .i64 kk, .int .i64 pp, .string (text ss)] 32)).ownsRow w1.heap.size 32 3 u4 own.length (own.flatMap lzCells) := OwnL.later HOw.out (hb3w.trans ((ba (b0 w3) _).mono hz3))
          have HRow := hid (Row.ofBuild (sz := 3) w3 #[.int .i64 kk, .int .i64 pp, .string (text ss)] 32 1 rfl (by omega))
          have HO3 := hid ho3
          have HB3 := hid (HBR.out.trans (hb3w.mono hzr))
          clear ho3 hb3 hb3w
          go_wp2_with (at_builtin; refine wpList_append_row rfl _ _ 23 rfl w1.heap.size 32 i0 _ 3 32 undLs hi hz0 hz1 hz2 rfl (by decide) _ _ _ rfl HO3.out _ 1 [.int .i64 kk, .int .i64 pp, .string (text ss)] rfl HRow.out ?g0 ?g1 ?g2 ?g3 ?_)
          case g0 => first | exact ⟨rfl, rfl, rfl⟩ | (intro u hu; simp only [List.mem_cons, List.mem_nil_iff, or_false] at hu; rcases hu with rfl | rfl | rfl <;> rfl)
          case g1 => omega
          case g2 => unfold maxLen; omega
          case g3 => first | omega | (simp; omega)
          intro v4 w4 hown4 hg4
          have hb4 : Below w1.heap.size w1 w4 := (HB3.out.alloc (by omega) _).grown hg4 (by simp; omega) (fun k hk => (HO3.out.lt k hk).1)
          have HW4 := hid (OwnL.snoc (l := own) (t := ⟨kk, pp, ss⟩) hown4)
          have HB4 := hid hb4
          clear hown4 hg4 hb4
          go_wp2_with fail
          go_roundw
          case rel => exact ⟨k + 1, Z, own ++ [⟨kk, pp, ss⟩], by go_num, rfl, by omega, HW4.out, HB4.out, HB, by rw [List.length_append]; simp only [List.length_singleton]; omega, by omega⟩
          case measure => simp [intOf]; omega
      · clear H1 H2
        by_cases hE : E = 0
        · subst hE
          by_cases h5 : kk = 5
          · subst h5
            go_wp2_with fail
            refine HTX.out.mono ?_
            rintro e w3 ⟨rfl, hb3⟩
            obtain ⟨d0, d2⟩ := HTC.out w3 hb3
            have hb3w : Below wr.heap.size wr w3 := HBA.out.trans (hb3.mono (by simp))
            have HB3 := hid (HBR.out.trans (hb3w.mono hzr))
            have HO3 := hid (OwnL.later HOw.out hb3w)
            clear hb3 hb3w
            go_wp2_with fail
            go_roundw
            case rel => exact ⟨k + 1, S, own, by go_num, rfl, by omega, HO3.out, HB3.out, HBK, by omega, by omega⟩
            case measure => simp [intOf]; omega
          · have q5 : (kk == 5) = false := by rw [beq_eq_false_iff_ne]; exact h5
            have q5' : (kk != 5) = true := by rw [bne, q5]; rfl
            have hx2 : ¬ (x.length : Int) < 200 := fun h => hgood ⟨rfl, h5, by omega⟩
            clear h5 hgood
            go_wp2_with fail
            refine HTX.out.mono ?_
            rintro e w3 ⟨rfl, hb3⟩
            obtain ⟨d0, d2⟩ := HTC.out w3 hb3
            have hb3w : Below wr.heap.size wr w3 := HBA.out.trans (hb3.mono (by simp))
            have HB3 := hid (HBR.out.trans (hb3w.mono hzr))
            have HO3 := hid (OwnL.later HOw.out hb3w)
            clear hb3 hb3w
            go_wp2_with fail
            go_roundw
            case rel => exact ⟨k + 1, S, own, by go_num, rfl, by omega, HO3.out, HB3.out, HBK, by omega, by omega⟩
            case measure => simp [intOf]; omega
        · have qE : ((E : Int) == 0) = false := by rw [beq_eq_false_iff_ne]; omega
          clear hE hgood
          go_wp2_with fail
          refine HTX.out.mono ?_
          rintro e w3 ⟨rfl, hb3⟩
          have hb3w : Below wr.heap.size wr w3 := HBA.out.trans (hb3.mono (by simp))
          have HB3 := hid (HBR.out.trans (hb3w.mono hzr))
          have HO3 := hid (OwnL.later HOw.out hb3w)
          clear hb3 hb3w
          go_wp2_with fail
          go_roundw
          case rel => exact ⟨k + 1, S, own, by go_num, rfl, by omega, HO3.out, HB3.out, HBK, by omega, by omega⟩
          case measure => simp [intOf]; omega
    · obtain ⟨M, m1, m2, m3, m4, m5, m6, m7⟩ := HBK.out.done
      have hlx := fun w (hF : Fit w) => Lex_any S (by omega) w hF.1 hF.2
      have HFr := hid (HF1.out.below hbr (Nat.le_refl _))
      have HOw := hid how
      have HBR := hid hbr
      have HLX := hid hlx
      have M1 := hid m1
      have M2 := hid m2
      have M3 := hid m3
      have M4 := hid m4
      have M6 := hid m6
      have M7 := hid m7
      have sS : (text S).size = S.length := text_size S
      clear hlx how hbr m1 m2 m3 m4 m6 m7
      go_wp2_with fail
      refine (HLX.out _ HFr.out).mono ?_
      rintro e w3 ⟨hg3, hb3⟩
      obtain ⟨vm, rfl, hom⟩ := hg3.ok M1.out M2.out
      have hz3 := hb3.size
      have ho4 : (w3.alloc (.cells #[.int .i64 5, .int .i64 0, .string ⟨#[]⟩] 32)).ownsRow w1.heap.size 32 3 u4 own.length (own.flatMap lzCells) := OwnL.later HOw.out (hb3.trans ((ba (b0 w3) _).mono hz3))
      have HRow := hid (Row.ofBuild (sz := 3) w3 #[.int .i64 5, .int .i64 0, .string ⟨#[]⟩] 32 1 rfl (by omega))
      have HO4 := hid ho4
      have HOM := hid hom
      have HB3 := hid hb3
      clear hg3 ho4 hom hb3
      go_wp2_with (at_builtin; refine append_if ?e8 _ _ 23 rfl w1.heap.size 32 i0 _ 3 32 undLs hi hz0 hz1 hz2 rfl (by decide) _ _ _ rfl HO4.out _ 1 [.int .i64 5, .int .i64 0, .string ⟨#[]⟩] rfl HRow.out ?e0 ?e1 ?e2 ?e3 ?_)
      case e0 => intro u hu; simp only [List.mem_cons, List.mem_nil_iff, or_false] at hu; rcases hu with rfl | rfl | rfl <;> rfl
      case e1 => have := M7.out; omega
      case e2 => have := M7.out; unfold maxLen; omega
      case e3 => simp; omega
      intro v4 w4 hown4 hg4
      have hlo := HO4.out.lt
      have hb3w : Below w1.heap.size w1 w3 := HBR.out.trans (HB3.out.mono hzr)
      have hb4 : Below w1.heap.size w1 w4 := (hb3w.alloc (by omega) _).grown hg4 (by simp; omega) (fun k hk => (hlo k hk).1)
      have hom4 : OwnL wr.heap.size w4 vm (M.map lz) := by
        have h1 : OwnL wr.heap.size (w3.alloc (.cells #[.int .i64 5, .int .i64 0, .string ⟨#[]⟩] 32)) vm (M.map lz) := HOM.out.later (ba (b0 w3) _)
        refine World.ownsRow.kept h1 hg4 ?_
        cases hv : vm.ownBlock with
        | none => exact .inl rfl
        | some g =>
          refine .inr (fun e => ?_)
          have g1 := (h1.lt g hv).1
          have g2 := (World.ownsRow.lt (HOw.out : wr.ownsRow w1.heap.size 32 3 u4 own.length (own.flatMap lzCells)) g e.symm).2
          omega
      have HW4 := hid ((OwnL.snoc (l := own) (t := fin0) hown4).lexs (by have := M7.out; simp; omega))
      have HM4 := hid (hom4.lexs (by have := M7.out; simp; omega))
      have hsm := Same_any false _ _ _ _ _ HM4.out HW4.out
      rw [M3.out] at hsm
      have HSM := hid hsm
      have HB4 := hid hb4
      have hlenm := fun W => HM4.out.len (P := Tryz.prog) 23 3 32 undLs W
      rw [List.length_map] at hlenm
      have hMl : M.length ≤ 102 := by have := M7.out; omega
      clear hown4 hg4 hb4 hom4 hsm hb3w hlo
      go_wp2_with fail
      refine HSM.out.mono ?_
      rintro e w5 ⟨rfl, hb5⟩
      have HM5 := hid (HM4.out.below hb5 (Nat.le_refl _))
      have HB5 := hid (HB1.out.trans ((HB4.out.trans (hb5.mono HB4.out.size)).mono HB1.out.size))
      clear hb5
      go_wp2_with fail
      go_loopw [12, 83] (fun lv iv wq => ∃ k : Nat, iv = .int .i64 k ∧ k ≤ M.length ∧ lv = .int .i64 (lastP M k) ∧ Below w5.heap.size w5 wq) (fun _ iv _ => M.length - (intOf iv).toNat)
      case atStart => exact ⟨0, rfl, Nat.zero_le _, rfl, b0 w5⟩
      case round =>
        rename World => wq
        obtain ⟨j, rfl, hj, rfl, hbq⟩ := hrel
        by_cases hjl : j < M.length
        · obtain ⟨bb, ob, hib, k0, k1, k2⟩ := (HM5.out.below hbq (Nat.le_refl _)).pick j (j : Int) rfl (lz M[j]) (by simp [hjl])
          have hless := last_less M4.out hjl
          have hnext := last_next hjl
          generalize lastP M j = L at *
          generalize M[j] = q at *
          obtain ⟨kk, pp, ss⟩ := q
          dsimp only [lz] at k0 k1 k2 hless hnext
          have HNX := hid hnext
          have HBQ := hid (hbq.trans ((ba (b0 wq) (.cells #[.int .i64 kk, .int .i64 pp, .string (text ss)] 32)).mono hbq.size))
          clear hnext hbq
          go_wp2_with fail
          go_roundw
          case rel => exact ⟨j + 1, by go_num, by omega, by rw [HNX.out], HBQ.out⟩
          case measure => simp [intOf]; omega
        · have hjm : j = M.length := by omega
          have hlast : lastP M j = (S.length : Int) := by
            rw [hjm, show M.length = (M.length - 1) + 1 from by omega, last_next (by omega), M6.out]
          rw [hlast]
          have HBQ := hid (HB5.out.trans (hbq.mono HB5.out.size))
          clear hbq hjm hlast
          go_wp2
          go_ret
          exact ⟨by simp, HBQ.out⟩
end Go.Proofs.YtblpckeimdmpaaaGreatDoor.Fx
