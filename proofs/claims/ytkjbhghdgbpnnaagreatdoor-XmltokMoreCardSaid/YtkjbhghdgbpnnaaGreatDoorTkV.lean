/- append, of a slice that a row tells, onto a slice that is written out and full. Over any program. | Layer 4: the walk of the statement XmltokMore. -/
import Derived.Test.YtkjbhghdgbpnnaaGreatDoorApp
import Derived.ArgAppend
import Derived.Test.YtkjbhghdgbpnnaaGreatDoorTkG
import Derived.Lib.AppendStr
set_option linter.unusedVariables false
set_option linter.unusedSimpArgs false
namespace Go.Proofs.YtkjbhghdgbpnnaaGreatDoor
open Go Go.RowKit

section
variable {P : Program} {w : World}
theorem run_append_lit (t ty e : TypeId) (i : TypeInfo) (z : Value) (size bytes : Nat) (ht : P.underlying t = some (.slice e)) (hi : P.info? e = some i) (hz : i.zero = some z)
    (hsize : i.size = size) (hby : i.bytes = bytes) (hzs : z.cells.size = size) (hsz : 0 < size)
    (b off n : Nat) (olds : List Value) (hlo : olds.length = n * size) (holds : ∀ j u, olds[j]? = some u → w.cell? ⟨b, off + j, none⟩ = some u)
    (x : Value) (m : Nat) (news : List Value) (hx : Row size w x m news) (h1 : ∀ u ∈ news, u.oneCell' = true) (hn : n + m ≤ 281474976710656)
    (hbytes : (n + m) * bytes ≤ 140737488355328) (hoff : 0 < n) :
    ∃ v' w', (Builtin.append_ #[t, t] ty #[.slice (some ⟨b, off, none⟩) n n, x]).run P w = .ok v' w' ∧ Row size w' v' (n + m) (olds ++ news) ∧ w.grownBy w' none := by
  have hmax : maxLen = 9223372036854775807 := rfl
  have self : Row size w (.slice (some ⟨b, off, none⟩) n n) n olds := ⟨⟨_, n, rfl, Nat.le_refl _, by omega, by omega, (fun e => by cases e), fun _ => ⟨b, off, rfl, holds⟩⟩, hlo⟩
  have g0 : w.grownBy w none := ⟨rfl, rfl, rfl, Nat.le_refl _, fun _ _ _ => rfl⟩
  obtain ⟨⟨a, c, rfl, h3, h4, h0, hz0, h5⟩, h6⟩ := hx
  by_cases hm : m = 0
  · subst hm
    obtain rfl : news = [] := List.eq_nil_of_length_eq_zero (by omega)
    refine ⟨.slice (some ⟨b, off, none⟩) n n, w, ?_, by simpa using self, g0⟩
    cases a with
    | none =>
      obtain rfl := hz0 rfl
      simp [Builtin.append_, run_underlying ht, sizeOf, typeInfo, hi, Builtin.lenOf, Builtin.firstCells, storeCells]
    | some ad =>
      have := run_append_room_cells (P := P) w t ty e i ht hi b off n n ad 0 c [] (by simp) (fun j u hj => by simp at hj) (fun u hu => by simp at hu) (by omega) (fun j hj => by simp at hj) (fun j hj => by simp at hj)
      simpa [World.setCells] using this
  · obtain ⟨bb, oo, rfl, h9⟩ := h5 (by rw [h6]; exact Nat.mul_pos (by omega) hsz)
    obtain ⟨v', w', hr, hown, hg⟩ := run_append_arg_grows (P := P) w t ty e i z size bytes ht hi hz hsize hby hzs hsz ⟨b, off, none⟩ n n olds hlo (fun j u hj => by rw [Addr.add_lit]; exact holds j u hj) ⟨bb, oo, none⟩ m c news h6 (fun j u hj => by rw [Addr.add_lit]; exact h9 j u hj) (by omega) (by omega) hbytes
    exact ⟨v', w', hr, Row.ofOwns hown (by omega), hg⟩

theorem wpList_append_lit {ops : Array Oper} {rest : List Oper} {o : Oper} {a : Act} {Q : Exit → Act → World → Prop} (hgd : o.guard = none) (s x : Operand) (t : TypeId)
    (ho : o.op = .call { callee := .builtin .append, args := #[s, x], argTypes := #[t, t] })
    (e : TypeId) (i : TypeInfo) (z : Value) (size bytes : Nat) (ht : P.underlying t = some (.slice e)) (hi : P.info? e = some i) (hz : i.zero = some z)
    (hsize : i.size = size) (hby : i.bytes = bytes) (hzs : z.cells.size = size) (hsz : 0 < size)
    (b off n : Nat) (olds : List Value) (hs : a.eval s = .slice (some ⟨b, off, none⟩) n n) (hlo : olds.length = n * size) (holds : ∀ j u, olds[j]? = some u → w.cell? ⟨b, off + j, none⟩ = some u)
    (xv : Value) (m : Nat) (news : List Value) (hx : a.eval x = xv) (hrow : Row size w xv m news) (h1 : ∀ u ∈ news, u.oneCell' = true) (hn : n + m ≤ 281474976710656)
    (hbytes : (n + m) * bytes ≤ 140737488355328) (hoff : 0 < n)
    (h : ∀ v' w', Row size w' v' (n + m) (olds ++ news) → w.grownBy w' none → wpList P ops Q rest (a.put o.dst v') w') : wpList P ops Q (o :: rest) a w := by
  refine wpList_plain hgd fun K hK => ?_
  obtain ⟨v', w', hrun, h2, h3⟩ := run_append_lit (P := P) (w := w) t o.type e i z size bytes ht hi hz hsize hby hzs hsz b off n olds hlo holds xv m news hrow h1 hn hbytes hoff
  unfold Oper.wp
  simp [execOp, ho, resolve, invoke, builtin, hs, hx, hrun, Result.andThen]
  exact hK _ _ (h v' w' h2 h3)
end
end Go.Proofs.YtkjbhghdgbpnnaaGreatDoor
namespace Go.Proofs.YtkjbhghdgbpnnaaGreatDoor.Tok
open Go Go.Proofs.YtkjbhghdgbpnnaaGreatDoor Go.Proofs.YtkjbhghdgbpnnaaGreatDoor.Utf Go.Proofs.YtkjbhghdgbpnnaaGreatDoor.Names Go.Proofs.YtkjbhghdgbpnnaaGreatDoor.Ent Go.RowKit
set_option maxRecDepth 100000

theorem infoB : (Tryz.prog.info? 5).map (fun i => (i.zero, i.size, i.bytes)) = some (some (.int .u8 0), 1, 1) := by kernel_rfl
theorem strCells_lit (m : List UInt8) (a : ByteArray) (h : a = text m) : Lib.strCells a = cellsOf m := by subst h; unfold Lib.strCells cellsOf; rw [_root_.Go.Proofs.YtkjbhghdgbpnnaaGreatDoor.text_data]
theorem new_cells_mark (w : World) (cs : Array Value) (e : TypeId) (fr : Nat × Nat) : ∀ j u, cs.toList[j]? = some u → (w.alloc (.cells cs e fr)).cell? ⟨w.heap.size, 0 + j, none⟩ = some u := by
  intro j u hj
  have hn := heap_alloc_new w (.cells cs e fr)
  simp only [World.cell?, hn]
  simpa using hj
/-- Tokens that are the same stay so, told by their places or not. -/
theorem same_self (p : Bool) (a : List Tok) : sameB p a a = true := sameB_yes rfl (fun _ _ _ => rfl)
theorem same_bare {a b : List Tok} (h : b.map Tok.bare = a.map Tok.bare) : sameB false a b = true := by
  have hl : a.length = b.length := by have := congrArg List.length h; simp at this; omega
  refine sameB_yes hl fun i h1 h2 => ?_
  have := map_get _ h i h2 h1
  unfold Tok.bare at this
  injection this with e1 e2
  injection e2 with e2 e3
  unfold keyT
  have e4 : ∀ (x y : List Pr), x.map Pr.bare = y.map Pr.bare → y.map (keyA false) = x.map (keyA false) := by
    intro x
    induction x with
    | nil => intro y h; cases y with
      | nil => rfl
      | cons c d => cases h
    | cons a x ih =>
      intro y h
      cases y with
      | nil => cases h
      | cons c d =>
        simp only [List.map_cons, List.cons.injEq] at h
        simp only [List.map_cons, List.cons.injEq]
        refine ⟨?_, ih d h.2⟩
        have := h.1
        unfold Pr.bare at this
        injection this with f1 f2
        unfold keyA
        rw [f1, f2]; rfl
  rw [e1, e2, e4 _ _ e3]; rfl

set_option maxHeartbeats 16000000 in
theorem XmltokMore_walk (v : Value) (l : List UInt8) (W : World) (hb : Bytes W v l) (hw : FitM W) :
    Calls Tryz.prog 6 #[v] W fun e w' => e = .returned (.bool true) ∧ Below W.heap.size W w' := by
  have hlen := fun X => hb.len (P := Tryz.prog) 25 3 5 underB X
  obtain ⟨i0, hi, hz0, hz1, hz2⟩ := info_parts infoB
  have HI := hid hi
  clear hi
  have AL := hid alive_any
  have HW := hid hw
  by_cases hl : 1500 < l.length
  · have hcmp : (1500 : Int) < (l.length : Int) := by omega
    clear hb hw
    go_enter Tryz.func6, Tryz.ntmps6
    go_wp2_with fail
    refine (AL.out _ HW.out).mono ?_
    rintro e w1 ⟨rfl, hb1⟩
    have HB1 := hid hb1
    clear hb1
    go_wp2_with fail
    refine (AL.out _ (HW.out.below HB1.out)).mono ?_
    rintro e w2 ⟨rfl, hb2⟩
    go_wp2
    go_ret
    exact ⟨rfl, bt HB1.out hb2⟩
  · have hcmp : ¬ (1500 : Int) < (l.length : Int) := by omega
    have hll : l.length ≤ 1500 := by omega
    have TK := fun X (hX : Below W.heap.size W X) => Tokens_any (hb.below hX (Nat.le_refl _)) (hw.below hX) (by omega)
    obtain ⟨ts, n, e, ht⟩ : ∃ ts n e, tokens l = (ts, n, e) := ⟨_, _, _, rfl⟩
    rw [ht] at TK
    dsimp only at TK
    have T0 := hid TK
    have HB := hid hb
    clear TK
    by_cases he : e = 0
    · subst he
      by_cases hq : ∃ r, l = 60 :: 63 :: r
      · have h1 : 0 < l.length := by obtain ⟨r, rfl⟩ := hq; simp
        have h2 : 1 < l.length := by obtain ⟨r, rfl⟩ := hq; simp
        have g0 : l[0] = 60 := by obtain ⟨r, rfl⟩ := hq; rfl
        have g1 : l[1] = 63 := by obtain ⟨r, rfl⟩ := hq; rfl
        have hgt : (1 : Int) < (l.length : Int) := by omega
        obtain ⟨p0, o0, i00, k00⟩ := HB.out.at (P := Tryz.prog) 0 h1 25 5 underB size8
        obtain ⟨p1, o1, i11, k11⟩ := HB.out.at (P := Tryz.prog) 1 h2 25 5 underB size8
        have i0' : ∀ (q : IntKind) (X : World), (Instr.indexAt 25 v (.int q 0)).run Tryz.prog X = .ok (.pointer (some ⟨p0, o0, none⟩)) X := i00
        have i1' : ∀ (q : IntKind) (X : World), (Instr.indexAt 25 v (.int q 1)).run Tryz.prog X = .ok (.pointer (some ⟨p1, o1, none⟩)) X := i11
        have HC0 := hid (fun X (hX : Below W.heap.size W X) => (by rw [hX.cell (p := ⟨p0, o0, none⟩) (World.block_lt_of_cell? _ _ k00)]; exact k00 : X.cell? ⟨p0, o0, none⟩ = some (.int .u8 l[0].toNat)))
        have HC1 := hid (fun X (hX : Below W.heap.size W X) => (by rw [hX.cell (p := ⟨p1, o1, none⟩) (World.block_lt_of_cell? _ _ k11)]; exact k11 : X.cell? ⟨p1, o1, none⟩ = some (.int .u8 l[1].toNat)))
        clear i00 i11 k00 k11
        rw [g0] at HC0
        rw [g1] at HC1
        clear hq ht hb hw g0 g1
        go_enter Tryz.func6, Tryz.ntmps6
        go_wp2_with fail
        refine (AL.out _ HW.out).mono ?_
        rintro e w1 ⟨rfl, hb1⟩
        have HB1 := hid hb1
        clear hb1
        go_wp2_with fail
        refine (T0.out _ HB1.out).mono ?_
        rintro e w2 ⟨⟨tv, rfl, ht2⟩, hb2⟩
        have htl : ts.length ≤ 281474976710656 := by obtain ⟨q, rfl, h, _⟩ := ht2; rw [List.length_map]; exact Row.le h
        have HT2 := hid ht2
        have HB2 := hid (bt HB1.out hb2)
        clear ht2 hb2
        have cc0 := HC0.out w2 HB2.out
        have cc1 := HC1.out w2 HB2.out
        go_wp2
        go_ret
        exact ⟨rfl, HB2.out⟩
      · have hnq : ∀ r, l ≠ 60 :: 63 :: r := fun r h => hq ⟨r, h⟩
        obtain ⟨us, hus1, hus2⟩ := more_ahead ht hll hnq
        have hmc := more_comment ht hll
        have hmb := more_behind ht hll
        have C1 := fun X v' (hX : Below W.heap.size W X) (hv : Bytes X v' (l ++ aComment)) => Tokens_any hv (hw.below hX) (by rw [List.length_append]; have : aComment.length = 19 := rfl; omega)
        rw [hmc] at C1
        have C2 := fun X v' (hX : Below W.heap.size W X) (hv : Bytes X v' (aDecl ++ l)) => Tokens_any hv (hw.below hX) (by rw [List.length_append]; have : aDecl.length = 21 := rfl; omega)
        rw [hus1] at C2
        have C3 := fun X v' (hX : Below W.heap.size W X) (hv : Bytes X v' (l ++ noDecl)) => Tokens_any hv (hw.below hX) (by rw [List.length_append]; have : noDecl.length = 8 := rfl; omega)
        have hS1 := same_self true ts
        have hS2 := same_bare hus2
        have hcc : ∀ X : World, (convert 25 25 (.slice (some ⟨X.heap.size, 0, none⟩) 21 21)).run Tryz.prog (X.alloc (.cells #[.int .u8 60, .int .u8 63, .int .u8 120, .int .u8 109, .int .u8 108, .int .u8 32, .int .u8 118, .int .u8 101, .int .u8 114, .int .u8 115, .int .u8 105, .int .u8 111, .int .u8 110, .int .u8 61, .int .u8 39, .int .u8 49, .int .u8 46, .int .u8 48, .int .u8 39, .int .u8 63, .int .u8 62] 5)) = .ok (.slice (some ⟨X.heap.size, 0, none⟩) 21 21) (X.alloc (.cells #[.int .u8 60, .int .u8 63, .int .u8 120, .int .u8 109, .int .u8 108, .int .u8 32, .int .u8 118, .int .u8 101, .int .u8 114, .int .u8 115, .int .u8 105, .int .u8 111, .int .u8 110, .int .u8 61, .int .u8 39, .int .u8 49, .int .u8 46, .int .u8 48, .int .u8 39, .int .u8 63, .int .u8 62] 5 (21, 22))) := fun X => Lib.run_convert_bytes_const X _ 5 #[.int .u8 60, .int .u8 63, .int .u8 120, .int .u8 109, .int .u8 108, .int .u8 32, .int .u8 118, .int .u8 101, .int .u8 114, .int .u8 115, .int .u8 105, .int .u8 111, .int .u8 110, .int .u8 61, .int .u8 39, .int .u8 49, .int .u8 46, .int .u8 48, .int .u8 39, .int .u8 63, .int .u8 62] 21 21 underB under8
        have CC1 := hid C1
        have CC2 := hid C2
        have HS1 := hid hS1
        have HS2 := hid hS2
        obtain ⟨R, hR⟩ : ∃ R, tokens (l ++ noDecl) = R := ⟨_, rfl⟩
        have HRR : Hid (R = if l = [] then ([], 8, 0) else ([], l.length, 5)) := by refine hid ?_; rw [← hR]; exact hmb
        rw [hR] at C3
        obtain ⟨r1, r2, r3⟩ := R
        dsimp only at C3
        have CC3 := hid C3
        generalize (l ++ aComment).length = n1 at *
        generalize (aDecl ++ l).length = n2 at *
        clear hq ht hb hw hus1 hus2 hmc hmb C1 C2 C3 hS1 hS2 hR
        by_cases hgt0 : 1 < l.length
        · have h1 : 0 < l.length := by omega
          have h2 := hgt0
          have hgt : (1 : Int) < (l.length : Int) := by omega
          obtain ⟨p0, o0, i00, k00⟩ := HB.out.at (P := Tryz.prog) 0 h1 25 5 underB size8
          obtain ⟨p1, o1, i11, k11⟩ := HB.out.at (P := Tryz.prog) 1 h2 25 5 underB size8
          have i0' : ∀ (q : IntKind) (X : World), (Instr.indexAt 25 v (.int q 0)).run Tryz.prog X = .ok (.pointer (some ⟨p0, o0, none⟩)) X := i00
          have i1' : ∀ (q : IntKind) (X : World), (Instr.indexAt 25 v (.int q 1)).run Tryz.prog X = .ok (.pointer (some ⟨p1, o1, none⟩)) X := i11
          have HC0 := hid (fun X (hX : Below W.heap.size W X) => (by rw [hX.cell (p := ⟨p0, o0, none⟩) (World.block_lt_of_cell? _ _ k00)]; exact k00 : X.cell? ⟨p0, o0, none⟩ = some (.int .u8 l[0].toNat)))
          have HC1 := hid (fun X (hX : Below W.heap.size W X) => (by rw [hX.cell (p := ⟨p1, o1, none⟩) (World.block_lt_of_cell? _ _ k11)]; exact k11 : X.cell? ⟨p1, o1, none⟩ = some (.int .u8 l[1].toNat)))
          clear i00 i11 k00 k11
          by_cases g0 : l[0] = 60
          · have g1 : ¬ l[1] = 63 := by
              intro g1
              match l, h1, h2, g0, g1, hnq with
              | a :: b :: r, _, _, g0, g1, hnq => exact hnq r (by rw [show a = 60 from g0, show b = 63 from g1])
            rw [g0] at HC0
            have t1 : (((l[1].toNat : Nat) : Int) == 63) = false := by
              rw [beq_eq_false_iff_ne]
              intro h
              have : l[1].toNat = (63 : UInt8).toNat := by have : l[1].toNat = 63 := by omega
                                                           rw [this]; rfl
              exact g1 (UInt8.toNat_inj.1 this)
            generalize l[1].toNat = b1 at *
            clear hnq g0 g1
            go_enter Tryz.func6, Tryz.ntmps6
            go_wp2_with fail
            refine (AL.out _ HW.out).mono ?_
            rintro e w1 ⟨rfl, hb1⟩
            have HB1 := hid hb1
            clear hb1
            go_wp2_with fail
            refine (T0.out _ HB1.out).mono ?_
            rintro e w2 ⟨⟨tv, rfl, ht2⟩, hb2⟩
            have htl : ts.length ≤ 281474976710656 := by obtain ⟨q, rfl, h, _⟩ := ht2; rw [List.length_map]; exact Row.le h
            have HT2 := hid ht2
            have HB2 := hid (bt HB1.out hb2)
            clear ht2 hb2
            have cc0 := HC0.out w2 HB2.out
            have cc1 := HC1.out w2 HB2.out
            have oe := owns_empty w2 5 1 w2.heap.size (Nat.le_refl _)
            have OE := hid oe
            have LOW0 := hid (ba (b0 w2) (.cells #[] 5))
            have BE := hid (HB2.out.trans ((ba (b0 w2) (.cells #[] 5)).mono HB2.out.size))
            have HR1 := hid (HB.out.below BE.out (Nat.le_refl _))
            have hle1 := HB2.out.size
            clear oe
            go_wp2_with (at_builtin; refine wpList_append_row rfl _ _ 25 rfl w2.heap.size 5 i0 (.int .u8 0) 1 1 underB HI.out hz0 hz1 hz2 rfl (by decide) _ _ _ rfl OE.out _ _ _ rfl HR1.out (cellsOf_one _) ?c1x1 ?c2x1 ?c3x1 ?_)
            case c1x1 => omega
            case c2x1 => unfold maxLen; omega
            try (case c3x1 => simp)
            intro v1a w1a hown hgr
            have O1a := hid hown
            have B1a := hid (BE.out.grown hgr BE.out.size (fun q hq => by have := (OE.out.lt q hq).1; omega))
            have Z1a := hid (Nat.le_trans (show w2.heap.size ≤ (w2.alloc (.cells #[] 5)).heap.size by simp) hgr.size)
            have LOWa := hid (LOW0.out.grown hgr LOW0.out.size (fun q hq => (OE.out.lt q hq).1))
            clear hown hgr
            go_wp2_with (at_builtin; refine Lib.wpList_append_own_string _ rfl _ _ 25 9 rfl w2.heap.size 5 i0 underB under9 HI.out hz0 hz1 hz2 _ _ _ rfl O1a.out ⟨#[60, 33, 45, 45, 32, 97, 45, 98, 32, 60, 99, 62, 32, 38, 100, 32, 45, 45, 62]⟩ rfl ?d1x1 ?d2x1 ?d3x1 ?_)
            case d1x1 => (try rw [Nat.zero_add]); show l.length + 19 ≤ maxLen; unfold maxLen; omega
            case d2x1 => (try rw [Nat.zero_add]); show l.length + 19 ≤ 140737488355328; omega
            case d3x1 => exact Z1a.out
            intro v1b w1b hown hgr _
            have hBy : Bytes w1b v1b (l ++ aComment) := by
              unfold Bytes
              try rw [List.nil_append] at hown
              try rw [Nat.zero_add] at hown
              rw [strCells_lit aComment ⟨#[60, 33, 45, 45, 32, 97, 45, 98, 32, 60, 99, 62, 32, 38, 100, 32, 45, 45, 62]⟩ rfl, ← cellsOf_append] at hown
              rw [List.length_append]
              exact Row.ofOwns hown (by show l.length + 19 ≤ 281474976710656; omega)
            have HBy := hid hBy
            have B1b := hid (B1a.out.grown hgr B1a.out.size (fun q hq => by have := (O1a.out.lt q hq).1; omega))
            have LOW1 := hid (LOWa.out.grown hgr LOWa.out.size (fun q hq => (O1a.out.lt q hq).1))
            clear hown hgr hBy
            go_wp2_with fail
            refine (CC1.out _ _ B1b.out HBy.out).mono ?_
            rintro e w3 ⟨⟨m1, rfl, hm1⟩, hb3⟩
            have HB3 := hid (B1b.out.trans (hb3.mono B1b.out.size))
            have HM1 := hid hm1
            have L3 := hid (LOW1.out.trans (hb3.mono LOW1.out.size))
            have HT3 := hid (HT2.out.below L3.out (Nat.le_refl _))
            clear hm1 hb3
            have BL := hid (HB3.out.trans ((ba (b0 w3) (.cells #[.int .u8 60, .int .u8 63, .int .u8 120, .int .u8 109, .int .u8 108, .int .u8 32, .int .u8 118, .int .u8 101, .int .u8 114, .int .u8 115, .int .u8 105, .int .u8 111, .int .u8 110, .int .u8 61, .int .u8 39, .int .u8 49, .int .u8 46, .int .u8 48, .int .u8 39, .int .u8 63, .int .u8 62] 5 (21, 22))).mono HB3.out.size))
            have HR2 := hid (HB.out.below BL.out (Nat.le_refl _))
            have LR : Bytes (w3.alloc (.cells #[.int .u8 60, .int .u8 63, .int .u8 120, .int .u8 109, .int .u8 108, .int .u8 32, .int .u8 118, .int .u8 101, .int .u8 114, .int .u8 115, .int .u8 105, .int .u8 111, .int .u8 110, .int .u8 61, .int .u8 39, .int .u8 49, .int .u8 46, .int .u8 48, .int .u8 39, .int .u8 63, .int .u8 62] 5 (21, 22))) (.slice (some ⟨w3.heap.size, 0, none⟩) 21 21) aDecl := Row.ofBuild w3 #[.int .u8 60, .int .u8 63, .int .u8 120, .int .u8 109, .int .u8 108, .int .u8 32, .int .u8 118, .int .u8 101, .int .u8 114, .int .u8 115, .int .u8 105, .int .u8 111, .int .u8 110, .int .u8 61, .int .u8 39, .int .u8 49, .int .u8 46, .int .u8 48, .int .u8 39, .int .u8 63, .int .u8 62] _ 21 rfl (by omega) (21, 22)
            have LRC := hid (new_cells_mark w3 #[.int .u8 60, .int .u8 63, .int .u8 120, .int .u8 109, .int .u8 108, .int .u8 32, .int .u8 118, .int .u8 101, .int .u8 114, .int .u8 115, .int .u8 105, .int .u8 111, .int .u8 110, .int .u8 61, .int .u8 39, .int .u8 49, .int .u8 46, .int .u8 48, .int .u8 39, .int .u8 63, .int .u8 62] 5 (21, 22))
            have L4 := hid (ba (b0 w3) (.cells #[.int .u8 60, .int .u8 63, .int .u8 120, .int .u8 109, .int .u8 108, .int .u8 32, .int .u8 118, .int .u8 101, .int .u8 114, .int .u8 115, .int .u8 105, .int .u8 111, .int .u8 110, .int .u8 61, .int .u8 39, .int .u8 49, .int .u8 46, .int .u8 48, .int .u8 39, .int .u8 63, .int .u8 62] 5 (21, 22)))
            clear LR
            go_wp2_with (at_builtin; refine wpList_append_lit rfl _ _ 25 rfl 5 i0 (.int .u8 0) 1 1 underB HI.out hz0 hz1 hz2 rfl (by decide) w3.heap.size 0 21 (cellsOf aDecl) rfl rfl LRC.out _ l.length (cellsOf l) rfl HR2.out (cellsOf_one _) ?e1 ?e2 (by decide) ?_)
            case e1 => omega
            case e2 => omega
            intro v2 w4 hrow hgr
            have hBy : Bytes w4 v2 (aDecl ++ l) := by
              unfold Bytes
              rw [← cellsOf_append] at hrow
              rw [List.length_append]
              exact hrow
            have HBy2 := hid hBy
            have B4 := hid (BL.out.grown hgr BL.out.size (fun q hq => by cases hq))
            have L4b := hid (L4.out.grown hgr L4.out.size (fun q hq => by cases hq))
            clear hrow hgr hBy
            go_wp2_with fail
            refine (CC2.out _ _ B4.out HBy2.out).mono ?_
            rintro e w5 ⟨⟨m2, rfl, hm2⟩, hb5⟩
            have HB5 := hid (B4.out.trans (hb5.mono B4.out.size))
            have L5 := hid (L4b.out.trans (hb5.mono L4b.out.size))
            have HT5 := hid (HT3.out.below L5.out (Nat.le_refl _))
            have HM15 := hid (HM1.out.below L5.out (Nat.le_refl _))
            have HM2 := hid hm2
            clear hm2 hb5
            have oe := owns_empty w5 5 1 w5.heap.size (Nat.le_refl _)
            clear OE BE
            have OE := hid oe
            have LOW5 := hid (ba (b0 w5) (.cells #[] 5))
            have BE := hid (HB5.out.trans ((ba (b0 w5) (.cells #[] 5)).mono HB5.out.size))
            have HR3 := hid (HB.out.below BE.out (Nat.le_refl _))
            have hle3 := HB5.out.size
            clear oe
            go_wp2_with (at_builtin; refine wpList_append_row rfl _ _ 25 rfl w5.heap.size 5 i0 (.int .u8 0) 1 1 underB HI.out hz0 hz1 hz2 rfl (by decide) _ _ _ rfl OE.out _ _ _ rfl HR3.out (cellsOf_one _) ?c1x3 ?c2x3 ?c3x3 ?_)
            case c1x3 => omega
            case c2x3 => unfold maxLen; omega
            try (case c3x3 => simp)
            intro v3a w3a hown hgr
            have O3a := hid hown
            have B3a := hid (BE.out.grown hgr BE.out.size (fun q hq => by have := (OE.out.lt q hq).1; omega))
            have Z3a := hid (Nat.le_trans (show w5.heap.size ≤ (w5.alloc (.cells #[] 5)).heap.size by simp) hgr.size)
            have LOW5a := hid (LOW5.out.grown hgr LOW5.out.size (fun q hq => (OE.out.lt q hq).1))
            clear hown hgr
            go_wp2_with (at_builtin; refine Lib.wpList_append_own_string _ rfl _ _ 25 9 rfl w5.heap.size 5 i0 underB under9 HI.out hz0 hz1 hz2 _ _ _ rfl O3a.out ⟨#[60, 63, 120, 109, 108, 32, 63, 62]⟩ rfl ?d1x3 ?d2x3 ?d3x3 ?_)
            case d1x3 => (try rw [Nat.zero_add]); show l.length + 8 ≤ maxLen; unfold maxLen; omega
            case d2x3 => (try rw [Nat.zero_add]); show l.length + 8 ≤ 140737488355328; omega
            case d3x3 => exact Z3a.out
            intro v3b w3b hown hgr _
            have hBy : Bytes w3b v3b (l ++ noDecl) := by
              unfold Bytes
              try rw [List.nil_append] at hown
              try rw [Nat.zero_add] at hown
              rw [strCells_lit noDecl ⟨#[60, 63, 120, 109, 108, 32, 63, 62]⟩ rfl, ← cellsOf_append] at hown
              rw [List.length_append]
              exact Row.ofOwns hown (by show l.length + 8 ≤ 281474976710656; omega)
            have HBy := hid hBy
            have B3b := hid (B3a.out.grown hgr B3a.out.size (fun q hq => by have := (O3a.out.lt q hq).1; omega))
            have LOW5b := hid (LOW5a.out.grown hgr LOW5a.out.size (fun q hq => (O3a.out.lt q hq).1))
            clear hown hgr hBy
            go_wp2_with fail
            refine (CC3.out _ _ B3b.out HBy.out).mono ?_
            rintro e w6 ⟨⟨m3, rfl, _⟩, hb6⟩
            have HB6 := hid (B3b.out.trans (hb6.mono B3b.out.size))
            have L6 := hid (LOW5b.out.trans (hb6.mono LOW5b.out.size))
            have HT6 := hid (HT5.out.below L6.out (Nat.le_refl _))
            have HM16 := hid (HM15.out.below L6.out (Nat.le_refl _))
            have HM26 := hid (HM2.out.below L6.out (Nat.le_refl _))
            have s1 := RSame_any true ts ts tv m1 w6 HT6.out HM16.out htl
            rw [HS1.out] at s1
            have SS1 := hid s1
            clear hb6 s1
            go_wp2_with fail
            refine SS1.out.mono ?_
            rintro e w7 ⟨rfl, hb7⟩
            have s2 := RSame_any false ts us tv m2 w7 (HT6.out.below hb7 (Nat.le_refl _)) (HM26.out.below hb7 (Nat.le_refl _)) htl
            rw [HS2.out] at s2
            have SS2 := hid s2
            have HB7 := hid (bt HB6.out hb7)
            clear hb7 s2
            go_wp2_with fail
            refine SS2.out.mono ?_
            rintro e w8 ⟨rfl, hb8⟩
            have HB8 := hid (bt HB7.out hb8)
            clear hb8
            by_cases hnil : l = []
            · have hR := HRR.out
              rw [if_pos hnil] at hR
              injection hR with e1 e2
              injection e2 with e2 e3
              subst e2 e3
              have hz : l.length = 0 := by rw [hnil]; rfl
              have hz2' : ((l.length : Int) == 0) = true := by rw [hz]; rfl
              clear hnil e1 hz HRR
              go_wp2
              go_ret
              exact ⟨rfl, HB8.out⟩
            · have hR := HRR.out
              rw [if_neg hnil] at hR
              injection hR with e1 e2
              injection e2 with e2 e3
              subst e2 e3
              have hpos := List.length_pos_iff.2 hnil
              have hz2' : ((l.length : Int) == 0) = false := by rw [beq_eq_false_iff_ne]; omega
              clear hnil e1 HRR
              go_wp2
              go_ret
              exact ⟨rfl, HB8.out⟩
          · have t0 : (((l[0].toNat : Nat) : Int) == 60) = false := by
              rw [beq_eq_false_iff_ne]
              intro h
              have : l[0].toNat = (60 : UInt8).toNat := by have : l[0].toNat = 60 := by omega
                                                           rw [this]; rfl
              exact g0 (UInt8.toNat_inj.1 this)
            generalize l[0].toNat = b1 at *
            clear hnq g0 HC1
            go_enter Tryz.func6, Tryz.ntmps6
            go_wp2_with fail
            refine (AL.out _ HW.out).mono ?_
            rintro e w1 ⟨rfl, hb1⟩
            have HB1 := hid hb1
            clear hb1
            go_wp2_with fail
            refine (T0.out _ HB1.out).mono ?_
            rintro e w2 ⟨⟨tv, rfl, ht2⟩, hb2⟩
            have htl : ts.length ≤ 281474976710656 := by obtain ⟨q, rfl, h, _⟩ := ht2; rw [List.length_map]; exact Row.le h
            have HT2 := hid ht2
            have HB2 := hid (bt HB1.out hb2)
            clear ht2 hb2
            have cc0 := HC0.out w2 HB2.out
            have oe := owns_empty w2 5 1 w2.heap.size (Nat.le_refl _)
            have OE := hid oe
            have LOW0 := hid (ba (b0 w2) (.cells #[] 5))
            have BE := hid (HB2.out.trans ((ba (b0 w2) (.cells #[] 5)).mono HB2.out.size))
            have HR1 := hid (HB.out.below BE.out (Nat.le_refl _))
            have hle1 := HB2.out.size
            clear oe
            go_wp2_with (at_builtin; refine wpList_append_row rfl _ _ 25 rfl w2.heap.size 5 i0 (.int .u8 0) 1 1 underB HI.out hz0 hz1 hz2 rfl (by decide) _ _ _ rfl OE.out _ _ _ rfl HR1.out (cellsOf_one _) ?c1x1 ?c2x1 ?c3x1 ?_)
            case c1x1 => omega
            case c2x1 => unfold maxLen; omega
            try (case c3x1 => simp)
            intro v1a w1a hown hgr
            have O1a := hid hown
            have B1a := hid (BE.out.grown hgr BE.out.size (fun q hq => by have := (OE.out.lt q hq).1; omega))
            have Z1a := hid (Nat.le_trans (show w2.heap.size ≤ (w2.alloc (.cells #[] 5)).heap.size by simp) hgr.size)
            have LOWa := hid (LOW0.out.grown hgr LOW0.out.size (fun q hq => (OE.out.lt q hq).1))
            clear hown hgr
            go_wp2_with (at_builtin; refine Lib.wpList_append_own_string _ rfl _ _ 25 9 rfl w2.heap.size 5 i0 underB under9 HI.out hz0 hz1 hz2 _ _ _ rfl O1a.out ⟨#[60, 33, 45, 45, 32, 97, 45, 98, 32, 60, 99, 62, 32, 38, 100, 32, 45, 45, 62]⟩ rfl ?d1x1 ?d2x1 ?d3x1 ?_)
            case d1x1 => (try rw [Nat.zero_add]); show l.length + 19 ≤ maxLen; unfold maxLen; omega
            case d2x1 => (try rw [Nat.zero_add]); show l.length + 19 ≤ 140737488355328; omega
            case d3x1 => exact Z1a.out
            intro v1b w1b hown hgr _
            have hBy : Bytes w1b v1b (l ++ aComment) := by
              unfold Bytes
              try rw [List.nil_append] at hown
              try rw [Nat.zero_add] at hown
              rw [strCells_lit aComment ⟨#[60, 33, 45, 45, 32, 97, 45, 98, 32, 60, 99, 62, 32, 38, 100, 32, 45, 45, 62]⟩ rfl, ← cellsOf_append] at hown
              rw [List.length_append]
              exact Row.ofOwns hown (by show l.length + 19 ≤ 281474976710656; omega)
            have HBy := hid hBy
            have B1b := hid (B1a.out.grown hgr B1a.out.size (fun q hq => by have := (O1a.out.lt q hq).1; omega))
            have LOW1 := hid (LOWa.out.grown hgr LOWa.out.size (fun q hq => (O1a.out.lt q hq).1))
            clear hown hgr hBy
            go_wp2_with fail
            refine (CC1.out _ _ B1b.out HBy.out).mono ?_
            rintro e w3 ⟨⟨m1, rfl, hm1⟩, hb3⟩
            have HB3 := hid (B1b.out.trans (hb3.mono B1b.out.size))
            have HM1 := hid hm1
            have L3 := hid (LOW1.out.trans (hb3.mono LOW1.out.size))
            have HT3 := hid (HT2.out.below L3.out (Nat.le_refl _))
            clear hm1 hb3
            have BL := hid (HB3.out.trans ((ba (b0 w3) (.cells #[.int .u8 60, .int .u8 63, .int .u8 120, .int .u8 109, .int .u8 108, .int .u8 32, .int .u8 118, .int .u8 101, .int .u8 114, .int .u8 115, .int .u8 105, .int .u8 111, .int .u8 110, .int .u8 61, .int .u8 39, .int .u8 49, .int .u8 46, .int .u8 48, .int .u8 39, .int .u8 63, .int .u8 62] 5 (21, 22))).mono HB3.out.size))
            have HR2 := hid (HB.out.below BL.out (Nat.le_refl _))
            have LR : Bytes (w3.alloc (.cells #[.int .u8 60, .int .u8 63, .int .u8 120, .int .u8 109, .int .u8 108, .int .u8 32, .int .u8 118, .int .u8 101, .int .u8 114, .int .u8 115, .int .u8 105, .int .u8 111, .int .u8 110, .int .u8 61, .int .u8 39, .int .u8 49, .int .u8 46, .int .u8 48, .int .u8 39, .int .u8 63, .int .u8 62] 5 (21, 22))) (.slice (some ⟨w3.heap.size, 0, none⟩) 21 21) aDecl := Row.ofBuild w3 #[.int .u8 60, .int .u8 63, .int .u8 120, .int .u8 109, .int .u8 108, .int .u8 32, .int .u8 118, .int .u8 101, .int .u8 114, .int .u8 115, .int .u8 105, .int .u8 111, .int .u8 110, .int .u8 61, .int .u8 39, .int .u8 49, .int .u8 46, .int .u8 48, .int .u8 39, .int .u8 63, .int .u8 62] _ 21 rfl (by omega) (21, 22)
            have LRC := hid (new_cells_mark w3 #[.int .u8 60, .int .u8 63, .int .u8 120, .int .u8 109, .int .u8 108, .int .u8 32, .int .u8 118, .int .u8 101, .int .u8 114, .int .u8 115, .int .u8 105, .int .u8 111, .int .u8 110, .int .u8 61, .int .u8 39, .int .u8 49, .int .u8 46, .int .u8 48, .int .u8 39, .int .u8 63, .int .u8 62] 5 (21, 22))
            have L4 := hid (ba (b0 w3) (.cells #[.int .u8 60, .int .u8 63, .int .u8 120, .int .u8 109, .int .u8 108, .int .u8 32, .int .u8 118, .int .u8 101, .int .u8 114, .int .u8 115, .int .u8 105, .int .u8 111, .int .u8 110, .int .u8 61, .int .u8 39, .int .u8 49, .int .u8 46, .int .u8 48, .int .u8 39, .int .u8 63, .int .u8 62] 5 (21, 22)))
            clear LR
            go_wp2_with (at_builtin; refine wpList_append_lit rfl _ _ 25 rfl 5 i0 (.int .u8 0) 1 1 underB HI.out hz0 hz1 hz2 rfl (by decide) w3.heap.size 0 21 (cellsOf aDecl) rfl rfl LRC.out _ l.length (cellsOf l) rfl HR2.out (cellsOf_one _) ?e1 ?e2 (by decide) ?_)
            case e1 => omega
            case e2 => omega
            intro v2 w4 hrow hgr
            have hBy : Bytes w4 v2 (aDecl ++ l) := by
              unfold Bytes
              rw [← cellsOf_append] at hrow
              rw [List.length_append]
              exact hrow
            have HBy2 := hid hBy
            have B4 := hid (BL.out.grown hgr BL.out.size (fun q hq => by cases hq))
            have L4b := hid (L4.out.grown hgr L4.out.size (fun q hq => by cases hq))
            clear hrow hgr hBy
            go_wp2_with fail
            refine (CC2.out _ _ B4.out HBy2.out).mono ?_
            rintro e w5 ⟨⟨m2, rfl, hm2⟩, hb5⟩
            have HB5 := hid (B4.out.trans (hb5.mono B4.out.size))
            have L5 := hid (L4b.out.trans (hb5.mono L4b.out.size))
            have HT5 := hid (HT3.out.below L5.out (Nat.le_refl _))
            have HM15 := hid (HM1.out.below L5.out (Nat.le_refl _))
            have HM2 := hid hm2
            clear hm2 hb5
            have oe := owns_empty w5 5 1 w5.heap.size (Nat.le_refl _)
            clear OE BE
            have OE := hid oe
            have LOW5 := hid (ba (b0 w5) (.cells #[] 5))
            have BE := hid (HB5.out.trans ((ba (b0 w5) (.cells #[] 5)).mono HB5.out.size))
            have HR3 := hid (HB.out.below BE.out (Nat.le_refl _))
            have hle3 := HB5.out.size
            clear oe
            go_wp2_with (at_builtin; refine wpList_append_row rfl _ _ 25 rfl w5.heap.size 5 i0 (.int .u8 0) 1 1 underB HI.out hz0 hz1 hz2 rfl (by decide) _ _ _ rfl OE.out _ _ _ rfl HR3.out (cellsOf_one _) ?c1x3 ?c2x3 ?c3x3 ?_)
            case c1x3 => omega
            case c2x3 => unfold maxLen; omega
            try (case c3x3 => simp)
            intro v3a w3a hown hgr
            have O3a := hid hown
            have B3a := hid (BE.out.grown hgr BE.out.size (fun q hq => by have := (OE.out.lt q hq).1; omega))
            have Z3a := hid (Nat.le_trans (show w5.heap.size ≤ (w5.alloc (.cells #[] 5)).heap.size by simp) hgr.size)
            have LOW5a := hid (LOW5.out.grown hgr LOW5.out.size (fun q hq => (OE.out.lt q hq).1))
            clear hown hgr
            go_wp2_with (at_builtin; refine Lib.wpList_append_own_string _ rfl _ _ 25 9 rfl w5.heap.size 5 i0 underB under9 HI.out hz0 hz1 hz2 _ _ _ rfl O3a.out ⟨#[60, 63, 120, 109, 108, 32, 63, 62]⟩ rfl ?d1x3 ?d2x3 ?d3x3 ?_)
            case d1x3 => (try rw [Nat.zero_add]); show l.length + 8 ≤ maxLen; unfold maxLen; omega
            case d2x3 => (try rw [Nat.zero_add]); show l.length + 8 ≤ 140737488355328; omega
            case d3x3 => exact Z3a.out
            intro v3b w3b hown hgr _
            have hBy : Bytes w3b v3b (l ++ noDecl) := by
              unfold Bytes
              try rw [List.nil_append] at hown
              try rw [Nat.zero_add] at hown
              rw [strCells_lit noDecl ⟨#[60, 63, 120, 109, 108, 32, 63, 62]⟩ rfl, ← cellsOf_append] at hown
              rw [List.length_append]
              exact Row.ofOwns hown (by show l.length + 8 ≤ 281474976710656; omega)
            have HBy := hid hBy
            have B3b := hid (B3a.out.grown hgr B3a.out.size (fun q hq => by have := (O3a.out.lt q hq).1; omega))
            have LOW5b := hid (LOW5a.out.grown hgr LOW5a.out.size (fun q hq => (O3a.out.lt q hq).1))
            clear hown hgr hBy
            go_wp2_with fail
            refine (CC3.out _ _ B3b.out HBy.out).mono ?_
            rintro e w6 ⟨⟨m3, rfl, _⟩, hb6⟩
            have HB6 := hid (B3b.out.trans (hb6.mono B3b.out.size))
            have L6 := hid (LOW5b.out.trans (hb6.mono LOW5b.out.size))
            have HT6 := hid (HT5.out.below L6.out (Nat.le_refl _))
            have HM16 := hid (HM15.out.below L6.out (Nat.le_refl _))
            have HM26 := hid (HM2.out.below L6.out (Nat.le_refl _))
            have s1 := RSame_any true ts ts tv m1 w6 HT6.out HM16.out htl
            rw [HS1.out] at s1
            have SS1 := hid s1
            clear hb6 s1
            go_wp2_with fail
            refine SS1.out.mono ?_
            rintro e w7 ⟨rfl, hb7⟩
            have s2 := RSame_any false ts us tv m2 w7 (HT6.out.below hb7 (Nat.le_refl _)) (HM26.out.below hb7 (Nat.le_refl _)) htl
            rw [HS2.out] at s2
            have SS2 := hid s2
            have HB7 := hid (bt HB6.out hb7)
            clear hb7 s2
            go_wp2_with fail
            refine SS2.out.mono ?_
            rintro e w8 ⟨rfl, hb8⟩
            have HB8 := hid (bt HB7.out hb8)
            clear hb8
            by_cases hnil : l = []
            · have hR := HRR.out
              rw [if_pos hnil] at hR
              injection hR with e1 e2
              injection e2 with e2 e3
              subst e2 e3
              have hz : l.length = 0 := by rw [hnil]; rfl
              have hz2' : ((l.length : Int) == 0) = true := by rw [hz]; rfl
              clear hnil e1 hz HRR
              go_wp2
              go_ret
              exact ⟨rfl, HB8.out⟩
            · have hR := HRR.out
              rw [if_neg hnil] at hR
              injection hR with e1 e2
              injection e2 with e2 e3
              subst e2 e3
              have hpos := List.length_pos_iff.2 hnil
              have hz2' : ((l.length : Int) == 0) = false := by rw [beq_eq_false_iff_ne]; omega
              clear hnil e1 HRR
              go_wp2
              go_ret
              exact ⟨rfl, HB8.out⟩
        · have hgt : ¬ (1 : Int) < (l.length : Int) := by omega
          clear hnq
          go_enter Tryz.func6, Tryz.ntmps6
          go_wp2_with fail
          refine (AL.out _ HW.out).mono ?_
          rintro e w1 ⟨rfl, hb1⟩
          have HB1 := hid hb1
          clear hb1
          go_wp2_with fail
          refine (T0.out _ HB1.out).mono ?_
          rintro e w2 ⟨⟨tv, rfl, ht2⟩, hb2⟩
          have htl : ts.length ≤ 281474976710656 := by obtain ⟨q, rfl, h, _⟩ := ht2; rw [List.length_map]; exact Row.le h
          have HT2 := hid ht2
          have HB2 := hid (bt HB1.out hb2)
          clear ht2 hb2
          have oe := owns_empty w2 5 1 w2.heap.size (Nat.le_refl _)
          have OE := hid oe
          have LOW0 := hid (ba (b0 w2) (.cells #[] 5))
          have BE := hid (HB2.out.trans ((ba (b0 w2) (.cells #[] 5)).mono HB2.out.size))
          have HR1 := hid (HB.out.below BE.out (Nat.le_refl _))
          have hle1 := HB2.out.size
          clear oe
          go_wp2_with (at_builtin; refine wpList_append_row rfl _ _ 25 rfl w2.heap.size 5 i0 (.int .u8 0) 1 1 underB HI.out hz0 hz1 hz2 rfl (by decide) _ _ _ rfl OE.out _ _ _ rfl HR1.out (cellsOf_one _) ?c1x1 ?c2x1 ?c3x1 ?_)
          case c1x1 => omega
          case c2x1 => unfold maxLen; omega
          try (case c3x1 => simp)
          intro v1a w1a hown hgr
          have O1a := hid hown
          have B1a := hid (BE.out.grown hgr BE.out.size (fun q hq => by have := (OE.out.lt q hq).1; omega))
          have Z1a := hid (Nat.le_trans (show w2.heap.size ≤ (w2.alloc (.cells #[] 5)).heap.size by simp) hgr.size)
          have LOWa := hid (LOW0.out.grown hgr LOW0.out.size (fun q hq => (OE.out.lt q hq).1))
          clear hown hgr
          go_wp2_with (at_builtin; refine Lib.wpList_append_own_string _ rfl _ _ 25 9 rfl w2.heap.size 5 i0 underB under9 HI.out hz0 hz1 hz2 _ _ _ rfl O1a.out ⟨#[60, 33, 45, 45, 32, 97, 45, 98, 32, 60, 99, 62, 32, 38, 100, 32, 45, 45, 62]⟩ rfl ?d1x1 ?d2x1 ?d3x1 ?_)
          case d1x1 => (try rw [Nat.zero_add]); show l.length + 19 ≤ maxLen; unfold maxLen; omega
          case d2x1 => (try rw [Nat.zero_add]); show l.length + 19 ≤ 140737488355328; omega
          case d3x1 => exact Z1a.out
          intro v1b w1b hown hgr _
          have hBy : Bytes w1b v1b (l ++ aComment) := by
            unfold Bytes
            try rw [List.nil_append] at hown
            try rw [Nat.zero_add] at hown
            rw [strCells_lit aComment ⟨#[60, 33, 45, 45, 32, 97, 45, 98, 32, 60, 99, 62, 32, 38, 100, 32, 45, 45, 62]⟩ rfl, ← cellsOf_append] at hown
            rw [List.length_append]
            exact Row.ofOwns hown (by show l.length + 19 ≤ 281474976710656; omega)
          have HBy := hid hBy
          have B1b := hid (B1a.out.grown hgr B1a.out.size (fun q hq => by have := (O1a.out.lt q hq).1; omega))
          have LOW1 := hid (LOWa.out.grown hgr LOWa.out.size (fun q hq => (O1a.out.lt q hq).1))
          clear hown hgr hBy
          go_wp2_with fail
          refine (CC1.out _ _ B1b.out HBy.out).mono ?_
          rintro e w3 ⟨⟨m1, rfl, hm1⟩, hb3⟩
          have HB3 := hid (B1b.out.trans (hb3.mono B1b.out.size))
          have HM1 := hid hm1
          have L3 := hid (LOW1.out.trans (hb3.mono LOW1.out.size))
          have HT3 := hid (HT2.out.below L3.out (Nat.le_refl _))
          clear hm1 hb3
          have BL := hid (HB3.out.trans ((ba (b0 w3) (.cells #[.int .u8 60, .int .u8 63, .int .u8 120, .int .u8 109, .int .u8 108, .int .u8 32, .int .u8 118, .int .u8 101, .int .u8 114, .int .u8 115, .int .u8 105, .int .u8 111, .int .u8 110, .int .u8 61, .int .u8 39, .int .u8 49, .int .u8 46, .int .u8 48, .int .u8 39, .int .u8 63, .int .u8 62] 5 (21, 22))).mono HB3.out.size))
          have HR2 := hid (HB.out.below BL.out (Nat.le_refl _))
          have LR : Bytes (w3.alloc (.cells #[.int .u8 60, .int .u8 63, .int .u8 120, .int .u8 109, .int .u8 108, .int .u8 32, .int .u8 118, .int .u8 101, .int .u8 114, .int .u8 115, .int .u8 105, .int .u8 111, .int .u8 110, .int .u8 61, .int .u8 39, .int .u8 49, .int .u8 46, .int .u8 48, .int .u8 39, .int .u8 63, .int .u8 62] 5 (21, 22))) (.slice (some ⟨w3.heap.size, 0, none⟩) 21 21) aDecl := Row.ofBuild w3 #[.int .u8 60, .int .u8 63, .int .u8 120, .int .u8 109, .int .u8 108, .int .u8 32, .int .u8 118, .int .u8 101, .int .u8 114, .int .u8 115, .int .u8 105, .int .u8 111, .int .u8 110, .int .u8 61, .int .u8 39, .int .u8 49, .int .u8 46, .int .u8 48, .int .u8 39, .int .u8 63, .int .u8 62] _ 21 rfl (by omega) (21, 22)
          have LRC := hid (new_cells_mark w3 #[.int .u8 60, .int .u8 63, .int .u8 120, .int .u8 109, .int .u8 108, .int .u8 32, .int .u8 118, .int .u8 101, .int .u8 114, .int .u8 115, .int .u8 105, .int .u8 111, .int .u8 110, .int .u8 61, .int .u8 39, .int .u8 49, .int .u8 46, .int .u8 48, .int .u8 39, .int .u8 63, .int .u8 62] 5 (21, 22))
          have L4 := hid (ba (b0 w3) (.cells #[.int .u8 60, .int .u8 63, .int .u8 120, .int .u8 109, .int .u8 108, .int .u8 32, .int .u8 118, .int .u8 101, .int .u8 114, .int .u8 115, .int .u8 105, .int .u8 111, .int .u8 110, .int .u8 61, .int .u8 39, .int .u8 49, .int .u8 46, .int .u8 48, .int .u8 39, .int .u8 63, .int .u8 62] 5 (21, 22)))
          clear LR
          go_wp2_with (at_builtin; refine wpList_append_lit rfl _ _ 25 rfl 5 i0 (.int .u8 0) 1 1 underB HI.out hz0 hz1 hz2 rfl (by decide) w3.heap.size 0 21 (cellsOf aDecl) rfl rfl LRC.out _ l.length (cellsOf l) rfl HR2.out (cellsOf_one _) ?e1 ?e2 (by decide) ?_)
          case e1 => omega
          case e2 => omega
          intro v2 w4 hrow hgr
          have hBy : Bytes w4 v2 (aDecl ++ l) := by
            unfold Bytes
            rw [← cellsOf_append] at hrow
            rw [List.length_append]
            exact hrow
          have HBy2 := hid hBy
          have B4 := hid (BL.out.grown hgr BL.out.size (fun q hq => by cases hq))
          have L4b := hid (L4.out.grown hgr L4.out.size (fun q hq => by cases hq))
          clear hrow hgr hBy
          go_wp2_with fail
          refine (CC2.out _ _ B4.out HBy2.out).mono ?_
          rintro e w5 ⟨⟨m2, rfl, hm2⟩, hb5⟩
          have HB5 := hid (B4.out.trans (hb5.mono B4.out.size))
          have L5 := hid (L4b.out.trans (hb5.mono L4b.out.size))
          have HT5 := hid (HT3.out.below L5.out (Nat.le_refl _))
          have HM15 := hid (HM1.out.below L5.out (Nat.le_refl _))
          have HM2 := hid hm2
          clear hm2 hb5
          have oe := owns_empty w5 5 1 w5.heap.size (Nat.le_refl _)
          clear OE BE
          have OE := hid oe
          have LOW5 := hid (ba (b0 w5) (.cells #[] 5))
          have BE := hid (HB5.out.trans ((ba (b0 w5) (.cells #[] 5)).mono HB5.out.size))
          have HR3 := hid (HB.out.below BE.out (Nat.le_refl _))
          have hle3 := HB5.out.size
          clear oe
          go_wp2_with (at_builtin; refine wpList_append_row rfl _ _ 25 rfl w5.heap.size 5 i0 (.int .u8 0) 1 1 underB HI.out hz0 hz1 hz2 rfl (by decide) _ _ _ rfl OE.out _ _ _ rfl HR3.out (cellsOf_one _) ?c1x3 ?c2x3 ?c3x3 ?_)
          case c1x3 => omega
          case c2x3 => unfold maxLen; omega
          try (case c3x3 => simp)
          intro v3a w3a hown hgr
          have O3a := hid hown
          have B3a := hid (BE.out.grown hgr BE.out.size (fun q hq => by have := (OE.out.lt q hq).1; omega))
          have Z3a := hid (Nat.le_trans (show w5.heap.size ≤ (w5.alloc (.cells #[] 5)).heap.size by simp) hgr.size)
          have LOW5a := hid (LOW5.out.grown hgr LOW5.out.size (fun q hq => (OE.out.lt q hq).1))
          clear hown hgr
          go_wp2_with (at_builtin; refine Lib.wpList_append_own_string _ rfl _ _ 25 9 rfl w5.heap.size 5 i0 underB under9 HI.out hz0 hz1 hz2 _ _ _ rfl O3a.out ⟨#[60, 63, 120, 109, 108, 32, 63, 62]⟩ rfl ?d1x3 ?d2x3 ?d3x3 ?_)
          case d1x3 => (try rw [Nat.zero_add]); show l.length + 8 ≤ maxLen; unfold maxLen; omega
          case d2x3 => (try rw [Nat.zero_add]); show l.length + 8 ≤ 140737488355328; omega
          case d3x3 => exact Z3a.out
          intro v3b w3b hown hgr _
          have hBy : Bytes w3b v3b (l ++ noDecl) := by
            unfold Bytes
            try rw [List.nil_append] at hown
            try rw [Nat.zero_add] at hown
            rw [strCells_lit noDecl ⟨#[60, 63, 120, 109, 108, 32, 63, 62]⟩ rfl, ← cellsOf_append] at hown
            rw [List.length_append]
            exact Row.ofOwns hown (by show l.length + 8 ≤ 281474976710656; omega)
          have HBy := hid hBy
          have B3b := hid (B3a.out.grown hgr B3a.out.size (fun q hq => by have := (O3a.out.lt q hq).1; omega))
          have LOW5b := hid (LOW5a.out.grown hgr LOW5a.out.size (fun q hq => (O3a.out.lt q hq).1))
          clear hown hgr hBy
          go_wp2_with fail
          refine (CC3.out _ _ B3b.out HBy.out).mono ?_
          rintro e w6 ⟨⟨m3, rfl, _⟩, hb6⟩
          have HB6 := hid (B3b.out.trans (hb6.mono B3b.out.size))
          have L6 := hid (LOW5b.out.trans (hb6.mono LOW5b.out.size))
          have HT6 := hid (HT5.out.below L6.out (Nat.le_refl _))
          have HM16 := hid (HM15.out.below L6.out (Nat.le_refl _))
          have HM26 := hid (HM2.out.below L6.out (Nat.le_refl _))
          have s1 := RSame_any true ts ts tv m1 w6 HT6.out HM16.out htl
          rw [HS1.out] at s1
          have SS1 := hid s1
          clear hb6 s1
          go_wp2_with fail
          refine SS1.out.mono ?_
          rintro e w7 ⟨rfl, hb7⟩
          have s2 := RSame_any false ts us tv m2 w7 (HT6.out.below hb7 (Nat.le_refl _)) (HM26.out.below hb7 (Nat.le_refl _)) htl
          rw [HS2.out] at s2
          have SS2 := hid s2
          have HB7 := hid (bt HB6.out hb7)
          clear hb7 s2
          go_wp2_with fail
          refine SS2.out.mono ?_
          rintro e w8 ⟨rfl, hb8⟩
          have HB8 := hid (bt HB7.out hb8)
          clear hb8
          by_cases hnil : l = []
          · have hR := HRR.out
            rw [if_pos hnil] at hR
            injection hR with e1 e2
            injection e2 with e2 e3
            subst e2 e3
            have hz : l.length = 0 := by rw [hnil]; rfl
            have hz2' : ((l.length : Int) == 0) = true := by rw [hz]; rfl
            clear hnil e1 hz HRR
            go_wp2
            go_ret
            exact ⟨rfl, HB8.out⟩
          · have hR := HRR.out
            rw [if_neg hnil] at hR
            injection hR with e1 e2
            injection e2 with e2 e3
            subst e2 e3
            have hpos := List.length_pos_iff.2 hnil
            have hz2' : ((l.length : Int) == 0) = false := by rw [beq_eq_false_iff_ne]; omega
            clear hnil e1 HRR
            go_wp2
            go_ret
            exact ⟨rfl, HB8.out⟩
    · have he2 : ((e : Int) == 0) = false := by rw [beq_eq_false_iff_ne]; omega
      clear ht
      go_enter Tryz.func6, Tryz.ntmps6
      go_wp2_with fail
      refine (AL.out _ HW.out).mono ?_
      rintro e w1 ⟨rfl, hb1⟩
      have HB1 := hid hb1
      clear hb1
      go_wp2_with fail
      refine (T0.out _ HB1.out).mono ?_
      rintro e w2 ⟨⟨tv, rfl, ht2⟩, hb2⟩
      have htl : ts.length ≤ 281474976710656 := by obtain ⟨q, rfl, h, _⟩ := ht2; rw [List.length_map]; exact Row.le h
      have HT2 := hid ht2
      have HB2 := hid (bt HB1.out hb2)
      clear ht2 hb2
      go_wp2
      go_ret
      exact ⟨rfl, HB2.out⟩
end Go.Proofs.YtkjbhghdgbpnnaaGreatDoor.Tok
