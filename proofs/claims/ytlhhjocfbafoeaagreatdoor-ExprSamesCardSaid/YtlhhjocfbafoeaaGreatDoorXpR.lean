/- Layer 10: the reader's map of names that are met; contracts of has, meet, leave, brought. -/
import Derived.Test.YtlhhjocfbafoeaaGreatDoorXpT
import Derived.Test.YtlhhjocfbafoeaaGreatDoorXbX
import Derived.Test.YtlhhjocfbafoeaaGreatDoorXbS
import Derived.Maps.Views
import Derived.Maps.OwnSet
set_option linter.unusedVariables false
set_option linter.unusedSimpArgs false
namespace Go.Proofs.YtlhhjocfbafoeaaGreatDoor.Xp
open Go Go.Proofs.YtlhhjocfbafoeaaGreatDoor Go.Proofs.YtlhhjocfbafoeaaGreatDoor.Utf Go.Proofs.YtlhhjocfbafoeaaGreatDoor.Names Go.Proofs.YtlhhjocfbafoeaaGreatDoor.Sc Go.RowKit
set_option maxRecDepth 100000

theorem undM : Tryz.prog.underlying 52 = some (.map 9 3) := Tryz.underlying52
theorem undI : Tryz.prog.underlying 3 = some (.int .i64) := Tryz.underlying3
theorem undStr : Tryz.prog.underlying 9 = some .string := Tryz.underlying9
theorem zeroI (w : World) : (zeroValue 3).run Tryz.prog w = .ok (.int .i64 0) w := by kernel_rfl
theorem key_of (x : Nam) (hx : x.length ≤ 2000000) : keyOf Tryz.prog 9 (.string (text x)) = some (.string x) := by
  have := WideMaps.keyOf_string_mk (P := Tryz.prog) undStr (s := text x) (by rw [text_size]; unfold maxLen; omega)
  rw [text_data] at this
  exact this
/-- The block holds how often each name was met. -/
def MetAt (w : World) (b : Nat) (B : List Nam) (n : Nat) : Prop :=
  ∃ D : DataW Unit, w.ownsMap Tryz.prog 9 (plainElem (H := Unit) Tryz.prog 3) b n D ∧ Maps.size D = few B ∧
    ∀ x : Nam, Maps.has D (.string x) = decide (x ∈ B) ∧ D.atKey (.string x) (.lit (.int .i64 0)) = .lit (.int .i64 (B.count x))
section
variable {w w' : World} {b n : Nat} {B C : List Nam}
theorem MetAt.lt (h : MetAt w b B n) : b < w.heap.size := by obtain ⟨D, h, _⟩ := h; exact h.lt
theorem MetAt.kept {row : Option Nat} (h : MetAt w b B n) (hg : w.grownBy w' row) (hne : some b ≠ row) : MetAt w' b B n := by
  obtain ⟨D, h1, h2⟩ := h
  exact ⟨D, h1.kept hg hne, h2⟩
theorem MetAt.keep {A : Nat → Prop} (h : MetAt w b B n) (hk : Keep A w w') (hb : ¬ A b) : MetAt w' b B n := by
  obtain ⟨D, ⟨es, clock, h1, r⟩, h2⟩ := h
  exact ⟨D, ⟨es, clock, hk.cell h1 hb, r⟩, h2⟩
theorem MetAt.mono {m : Nat} (h : MetAt w b B n) (hm : n ≤ m) : MetAt w b B m := by obtain ⟨D, h1, h2⟩ := h; exact ⟨D, h1.mono hm, h2⟩
theorem MetAt.perm (h : MetAt w b B n) (hp : B.Perm C) : MetAt w b C n := by
  obtain ⟨D, h1, h2, h3⟩ := h
  refine ⟨D, h1, by rw [h2]; exact few_eq fun z => hp.mem_iff, fun x => ?_⟩
  rw [(h3 x).1, (h3 x).2, hp.count_eq]
  exact ⟨decide_eq_decide.2 hp.mem_iff, rfl⟩
theorem MetAt.made (w : World) : MetAt (w.alloc (.map #[] 0)) w.heap.size [] 0 := by
  have := World.ownsMap_made (H := Unit) w Tryz.prog 9 (plainElem (H := Unit) Tryz.prog 3)
  exact ⟨_, this, few_nil.symm, fun x => ⟨rfl, rfl⟩⟩
theorem MetAt.look (h : MetAt w b B n) (x : Nam) (hx : x.length ≤ 2000000) :
    (Instr.lookup 52 (.map (some b)) (.string (text x)) false).run Tryz.prog w = .ok (.int .i64 (B.count x)) w := by
  obtain ⟨D, h1, h2, h3⟩ := h
  obtain ⟨c, hrun, hat, _⟩ := h1.lookup_int (Maps.string_keyed undStr) undM undI (zeroI w) (key_of x hx)
  rw [(h3 x).2] at hat
  injection hat with hat
  injection hat with _ hat
  rw [hrun, hat]
theorem MetAt.len (h : MetAt w b B n) (ty : TypeId) : (Builtin.len_ #[52] ty #[.map (some b)]).run Tryz.prog w = .ok (.int .i64 (few B)) w := by
  obtain ⟨D, h1, h2, h3⟩ := h
  rw [← h2]
  exact h1.len undM ty
theorem isKey (x : Nam) : WideAt.IsKeyLit (.string x) := by simp [WideAt.IsKeyLit]
theorem str_ne {x y : Nam} (h : y ≠ x) : (Lit.string y) ≠ .string x := fun q => h (by injection q)
/-- Once more. -/
theorem MetAt.plus (h : MetAt w b B n) (hn : n < 281474976710656) (hc : B.length ≤ 281474976710656) (x : Nam) (hx : x.length ≤ 2000000) :
    ∃ w', (Instr.mapUpdate 52 (.map (some b)) (.string (text x)) (.int .i64 ((B.count x : Int) + 1))).run Tryz.prog w = .ok () w' ∧ MetAt w' b (x :: B) (n + 1) ∧ w.grownBy w' (some b) := by
  obtain ⟨D, h1, h2, h3⟩ := h
  have hle := List.count_le_length (a := x) (l := B)
  obtain ⟨w1, hrun, own1, hg1⟩ := h1.update (Maps.string_keyed undStr) undM (by unfold maxLen; omega) (key_of x hx) (plainElem_int (H := Unit) undI (a := (B.count x : Int) + 1) (WalkArith.wf_i64 (by omega)))
  refine ⟨w1, hrun, ⟨_, own1, ?_, fun y => ?_⟩, hg1⟩
  · rw [Maps.size_put (h1.tidy (Maps.string_keyed undStr)), (h3 x).1, h2, few_cons]
    by_cases e : x ∈ B <;> simp [e]
  · by_cases e : y = x
    · subst e
      rw [Maps.has_put_same h1.isMap (isKey y), Maps.atKey_put_same h1.isMap (isKey y)]
      simp
    · rw [Maps.has_put_other (str_ne e), Maps.atKey_put_other (str_ne e), (h3 y).1, (h3 y).2, List.count_cons_of_ne (fun q => e q.symm)]
      exact ⟨by simp [e], rfl⟩
/-- Once less. -/
theorem MetAt.minus {x : Nam} (h : MetAt w b (x :: C) n) (hn : n < 281474976710656) (hc : C.length ≤ 281474976710656) (hx : x.length ≤ 2000000) (hm : x ∈ C) :
    ∃ w', (Instr.mapUpdate 52 (.map (some b)) (.string (text x)) (.int .i64 (C.count x))).run Tryz.prog w = .ok () w' ∧ MetAt w' b C (n + 1) ∧ w.grownBy w' (some b) := by
  obtain ⟨D, h1, h2, h3⟩ := h
  have hle := List.count_le_length (a := x) (l := C)
  obtain ⟨w1, hrun, own1, hg1⟩ := h1.update (Maps.string_keyed undStr) undM (by unfold maxLen; omega) (key_of x hx) (plainElem_int (H := Unit) undI (a := (C.count x : Int)) (WalkArith.wf_i64 (by omega)))
  refine ⟨w1, hrun, ⟨_, own1, ?_, fun y => ?_⟩, hg1⟩
  · rw [Maps.size_put (h1.tidy (Maps.string_keyed undStr)), (h3 x).1, h2, few_cons]
    simp [hm]
  · by_cases e : y = x
    · subst e
      rw [Maps.has_put_same h1.isMap (isKey y), Maps.atKey_put_same h1.isMap (isKey y)]
      simp [hm]
    · rw [Maps.has_put_other (str_ne e), Maps.atKey_put_other (str_ne e), (h3 y).1, (h3 y).2, List.count_cons_of_ne (fun q => e q.symm)]
      exact ⟨by simp [e], rfl⟩
/-- No more. -/
theorem MetAt.gone {x : Nam} (h : MetAt w b (x :: C) n) (hx : x.length ≤ 2000000) (hm : x ∉ C) (ty : TypeId) :
    ∃ w', (Builtin.delete_ #[52, 9] ty #[.map (some b), .string (text x)]).run Tryz.prog w = .ok (.tuple #[]) w' ∧ MetAt w' b C n ∧ w.grownBy w' (some b) := by
  obtain ⟨D, h1, h2, h3⟩ := h
  obtain ⟨w1, hrun, own1, hg1⟩ := h1.drop (Maps.string_keyed undStr) undM (key_of x hx) ty
  refine ⟨w1, hrun, ⟨_, own1, ?_, fun y => ?_⟩, hg1.grown⟩
  · have := Maps.size_del (k := .string x) (h1.tidy (Maps.string_keyed undStr))
    rw [(h3 x).1, h2, few_cons, if_neg hm] at this
    simpa using this
  · by_cases e : y = x
    · subst e
      rw [Maps.has_del_same, Maps.atKey_del_same, List.count_eq_zero_of_not_mem hm]
      simp [hm]
    · rw [Maps.has_del_other (str_ne e), Maps.atKey_del_other (str_ne e), (h3 y).1, (h3 y).2, List.count_cons_of_ne (fun q => e q.symm)]
      exact ⟨by simp [e], rfl⟩
/-- One that wasn't met. -/
theorem MetAt.never {x : Nam} (h : MetAt w b C n) (hx : x.length ≤ 2000000) (hm : x ∉ C) (ty : TypeId) :
    ∃ w', (Builtin.delete_ #[52, 9] ty #[.map (some b), .string (text x)]).run Tryz.prog w = .ok (.tuple #[]) w' ∧ MetAt w' b C n ∧ w.grownBy w' (some b) := by
  obtain ⟨D, h1, h2, h3⟩ := h
  obtain ⟨w1, hrun, own1, hg1⟩ := h1.drop (Maps.string_keyed undStr) undM (key_of x hx) ty
  rw [Maps.del_of_not_has (by rw [(h3 x).1]; simp [hm])] at own1
  exact ⟨w1, hrun, ⟨_, own1, h2, h3⟩, hg1.grown⟩
end
/-- The reader's cells. -/
def rcells (p : Option Addr) (mb : Nat) (most : Int) (f : Value) : Array Value := #[.pointer p, .map (some mb), .int .i64 most, f]
/-- A reader in memory: the scope lies in an older world. -/
structure Rdr (W0 : World) (rb : Nat) (p : Option Addr) (N : List Nam) (mb : Nat) (most : Int) (f : Value) (B : List Nam) (n : Nat) (w : World) : Prop where
  old : Below W0.heap.size W0 w
  low : W0.heap.size ≤ mb ∧ W0.heap.size ≤ rb
  cur : w.heap[rb]? = some (.cells (rcells p mb most f) 55 (0, 0))
  sc : ScAt W0 p N
  met : MetAt w mb B n
  off : ∀ z ∈ B, z ∉ N
theorem MetAt.map {w : World} {b n : Nat} {B : List Nam} (h : MetAt w b B n) : ∃ es c, w.heap[b]? = some (.map es c) := by
  obtain ⟨D, ⟨es, c, h, _⟩, _⟩ := h
  exact ⟨es, c, h⟩
/-- A row isn't the map's block. -/
theorem row_map {w : World} {b n : Nat} {v : Value} {xs : List Value} {sz : Nat} (hs : 0 < sz) (h : Row sz w v n xs) (hn : 0 < n) {es : Array MapEntry} {c : Nat} (hm : w.heap[b]? = some (.map es c)) {k : Nat} (hk : v.ownBlock = some k) : k ≠ b := by
  intro e
  subst e
  obtain ⟨⟨a, cp, hv, h5⟩, h6⟩ := h
  have hx : 0 < xs.length := by rw [h6]; exact Nat.mul_pos hn hs
  obtain ⟨b', off, rfl, h9⟩ := h5.2.2.2.2 hx
  have hb : b' = k := by rw [hv] at hk; simpa [Value.ownBlock] using hk
  subst hb
  have hc := h9 0 _ (List.getElem?_eq_getElem hx)
  simp [World.cell?, hm] at hc
section
variable {W0 : World} {rb mb n : Nat} {p : Option Addr} {N B : List Nam} {most : Int} {f : Value}
theorem Rdr.ne {w : World} (h : Rdr W0 rb p N mb most f B n w) : rb ≠ mb := by
  obtain ⟨es, c, h1⟩ := h.met.map
  intro e
  have := h.cur
  rw [e, h1] at this
  cases this
/-- Something else has turned. -/
theorem Rdr.keep {A : Nat → Prop} {w w' : World} (h : Rdr W0 rb p N mb most f B n w) (hk : Keep A w w') (hA : ∀ b, A b → W0.heap.size ≤ b ∧ b ≠ rb ∧ b ≠ mb) : Rdr W0 rb p N mb most f B n w' :=
  ⟨hk.below h.old (fun b hb => (hA b hb).1), h.low, hk.cell h.cur (fun c => (hA _ c).2.1 rfl), h.sc, h.met.keep hk (fun c => (hA _ c).2.2 rfl), h.off⟩
theorem Rdr.later {w w' : World} (h : Rdr W0 rb p N mb most f B n w) (hb : Below w.heap.size w w') : Rdr W0 rb p N mb most f B n w' := h.keep (A := fun _ => False) (Keep.of_below hb) (fun _ c => c.elim)
theorem Rdr.drew {w : World} (h : Rdr W0 rb p N mb most f B n w) (q : Nat) : Rdr W0 rb p N mb most f B n (w.drewN q) := h.later (below_drewN (b0 w) q)
/-- The map has turned. -/
theorem Rdr.turn {w w' : World} {C : List Nam} {m : Nat} (h : Rdr W0 rb p N mb most f B n w) (hg : w.grownBy w' (some mb)) (hm : MetAt w' mb C m) (ho : ∀ z ∈ C, z ∉ N) : Rdr W0 rb p N mb most f C m w' := by
  have hk : Keep (· = mb) w w' := Keep.of_grown hg (fun b e => by injection e with e; exact e.symm)
  exact ⟨hk.below h.old (fun b hb => by rw [hb]; exact h.low.1), h.low, hk.cell h.cur h.ne, h.sc, hm, ho⟩
theorem Rdr.perm {w : World} {C : List Nam} (h : Rdr W0 rb p N mb most f B n w) (hp : B.Perm C) : Rdr W0 rb p N mb most f C n w :=
  ⟨h.old, h.low, h.cur, h.sc, h.met.perm hp, fun z hz => h.off z (hp.mem_iff.2 hz)⟩
theorem Rdr.mono {w : World} {m : Nat} (h : Rdr W0 rb p N mb most f B n w) (hm : n ≤ m) : Rdr W0 rb p N mb most f B m w := ⟨h.old, h.low, h.cur, h.sc, h.met.mono hm, h.off⟩
set_option maxHeartbeats 1000000 in
theorem has_any {w : World} (h : Rdr W0 rb p N mb most f B n w) (x : Nam) (hx : x.length ≤ 2000000) :
    Calls Tryz.prog 59 #[.pointer (some ⟨rb, 0, none⟩), .string (text x)] w fun e w' => e = .returned (.bool (decide (x ∈ B ∨ x ∈ N))) ∧ ∃ q, w' = w.drewN q := by
  have c0 : w.cell? ⟨rb, 0, none⟩ = some (.pointer p) := by rw [Lib.cell_of_heap h.cur]; rfl
  have c1 : w.cell? ⟨rb, 1, none⟩ = some (.map (some mb)) := by rw [Lib.cell_of_heap h.cur]; rfl
  have lk := h.met.look x hx
  have HS := hid (SHas_any p N x w (h.sc.later h.old))
  clear h
  by_cases hB : x ∈ B
  · have hp : (0 : Int) < (B.count x : Int) := by have := List.count_pos_iff.2 hB; omega
    have hd : decide (x ∈ B ∨ x ∈ N) = true := by simp [hB]
    rw [hd]
    clear hB hd
    generalize B.count x = c at *
    go_enter Tryz.func59, Tryz.ntmps59
    go_wp2_with fail
    go_ret
    exact ⟨rfl, 0, rfl⟩
  · have hz : B.count x = 0 := List.count_eq_zero_of_not_mem hB
    rw [hz] at lk
    have hd : decide (x ∈ B ∨ x ∈ N) = decide (x ∈ N) := by simp [hB]
    rw [hd]
    clear hB hz hd
    go_enter Tryz.func59, Tryz.ntmps59
    go_wp2_with fail
    refine HS.out.mono ?_
    rintro e w1 ⟨rfl, q, rfl⟩
    go_wp2
    go_ret
    exact ⟨rfl, q, rfl⟩
theorem strs_keep {w w' : World} {v : Value} {l : List Nam} {b n : Nat} {B : List Nam} (h : Strs w v l) (hk : Keep (· = b) w w') (hm : MetAt w b B n) : Strs w' v l := by
  obtain ⟨es, c, h1⟩ := hm.map
  exact Row.same (by omega) h (fun hn k hk2 hl => hk.block k hl (row_map (by omega) h hn h1 hk2))
theorem off_take (N l : List Nam) (i : Nat) (h : i < l.length) : off N (l.take (i + 1)) = off N (l.take i) ++ (if l[i] ∈ N then [] else [l[i]]) := by
  rw [List.take_succ_eq_append_getElem h, off_app]
  by_cases c : l[i] ∈ N <;> simp [off, c]
theorem off_drop (N l : List Nam) (i : Nat) (h : i < l.length) : off N (l.drop i) = (if l[i] ∈ N then [] else [l[i]]) ++ off N (l.drop (i + 1)) := by
  have e : off N (l.drop i) = off N (l[i] :: l.drop (i + 1)) := by rw [← List.drop_eq_getElem_cons h]
  rw [e]
  unfold off
  rw [List.filter_cons]
  by_cases c : l[i] ∈ N
  · rw [if_pos c, if_neg (by rw [decide_eq_true c]; simp), List.nil_append]
  · rw [if_neg c, if_pos (by rw [decide_eq_false c]; rfl), List.singleton_append]
theorem off_len (N l : List Nam) : (off N l).length ≤ l.length := List.length_filter_le _ _
set_option maxHeartbeats 2000000 in
theorem meet_any {w : World} (h : Rdr W0 rb p N mb most f B n w) (v : Value) (l : List Nam) (hv : Strs w v l) (hx : ∀ x ∈ l, x.length ≤ 2000000) (hn : n + l.length ≤ 1000000000000) (hb : B.length + l.length ≤ 1000000000000) :
    Calls Tryz.prog 60 #[.pointer (some ⟨rb, 0, none⟩), v] w fun e w' => e = .returned (.tuple #[]) ∧ Rdr W0 rb p N mb most f (off N l ++ B) (n + l.length) w' ∧ Keep (· = mb) w w' := by
  have hlen := fun W => hv.len (P := Tryz.prog) 22 3 9 undS W
  have H := hid h
  have HV := hid hv
  have HX := hid hx
  clear h hv hx
  go_enter Tryz.func60, Tryz.ntmps60
  go_wp2_with fail
  go_loopg [8, 5] l.length (fun gk iv _ X => ∃ i : Nat, iv = .int .i64 i ∧ i + gk = l.length ∧ Hid (Rdr W0 rb p N mb most f (off N (l.take i) ++ B) (n + i) X) ∧ Hid (Keep (· = mb) w X))
  case atStart => exact ⟨0, rfl, by omega, hid (by simpa [off] using H.out), hid (Keep.refl _ _)⟩
  case round =>
    rename World => X
    obtain ⟨i, rfl, hg, HR, HK⟩ := hrel
    by_cases hi : i < l.length
    · have hsx := strs_keep HV.out HK.out H.out.met
      obtain ⟨sb, so, hix, hcl⟩ := hsx.at (P := Tryz.prog) i hi 22 9 undS sizS
      have hix' := hix .i64
      have c0 : X.cell? ⟨rb, 0, none⟩ = some (.pointer p) := by rw [Lib.cell_of_heap HR.out.cur]; rfl
      have HM := hid (HX.out l[i] (List.getElem_mem hi))
      have HT := hid (off_take N l i hi)
      have HL := hid (off_len N (l.take i))
      generalize l[i] = x at *
      have HS := hid (SHas_any p N x X (HR.out.sc.later HR.out.old))
      clear hix hsx
      by_cases hN : x ∈ N
      · have hd : decide (x ∈ N) = true := by simp [hN]
        rw [hd] at HS
        have HT2 := hid (show off N (l.take (i + 1)) = off N (l.take i) by rw [HT.out, if_pos hN, List.append_nil])
        clear hN hd
        go_wp2_with fail
        refine HS.out.mono ?_
        rintro e w1 ⟨rfl, q, rfl⟩
        go_wp2
        go_roundg (gk - 1)
        case measure => omega
        case rel => exact ⟨i + 1, by go_num, by omega, hid (by rw [HT2.out]; exact (HR.out.mono (by omega)).drew q), hid (HK.out.drew q)⟩
      · have hd : decide (x ∈ N) = false := by simp [hN]
        rw [hd] at HS
        have HN := hid hN
        clear hN hd
        go_wp2_with fail
        refine HS.out.mono ?_
        rintro e w1 ⟨rfl, q, rfl⟩
        have HRQ := hid (HR.out.drew q)
        have c1 : (X.drewN q).cell? ⟨rb, 1, none⟩ = some (.map (some mb)) := by rw [Lib.cell_of_heap HRQ.out.cur]; rfl
        have lk := HRQ.out.met.look x HM.out
        have hle := List.count_le_length (a := x) (l := off N (l.take i) ++ B)
        have hll : (off N (l.take i) ++ B).length ≤ 1000000000000 := by
          have := HL.out
          rw [List.length_append, List.length_take] at *
          omega
        obtain ⟨w2, hup, hm2, hg2⟩ := HRQ.out.met.plus (by omega) (by omega) x HM.out
        have HG := hid hg2
        have HM2 := hid hm2
        have HKQ := hid (HK.out.drew q)
        generalize X.drewN q = Y at *
        have hc : Hid ((off N (l.take i) ++ B).length ≤ 1000000000000) := hid hll
        clear hg2 hm2 hll
        generalize hcnt : (off N (l.take i) ++ B).count x = c at *
        have hw : wrap64 ((c : Int) + 1) = (c : Int) + 1 := IntWalk.wrap64_in _ ⟨by have := hc.out; omega, by have := hc.out; omega⟩
        clear hcnt
        go_wp2
        go_roundg (gk - 1)
        case measure => omega
        case rel =>
          refine ⟨i + 1, by go_num, by omega, hid ?_, hid (HKQ.out.trans (Keep.of_grown HG.out (fun b e => by injection e with e; exact e.symm)) (fun _ _ c => c))⟩
          have h1 := HRQ.out.turn HG.out HM2.out (fun z hz => by
            rcases List.mem_cons.1 hz with rfl | hz
            · exact HN.out
            · exact HRQ.out.off z hz)
          refine h1.perm ?_
          rw [HT.out, if_neg HN.out, List.append_assoc]
          exact List.perm_middle.symm
    · have hil : i = l.length := by omega
      subst hil
      have HR2 := HR
      rw [List.take_length] at HR2
      clear HR
      go_wp2
      go_end0
      exact ⟨rfl, HR2.out, HK.out⟩
set_option maxHeartbeats 2000000 in
theorem leave_any {w : World} (v : Value) (l : List Nam) (h : Rdr W0 rb p N mb most f (off N l ++ B) n w) (hv : Strs w v l) (hx : ∀ x ∈ l, x.length ≤ 2000000) (hn : n + l.length ≤ 1000000000000) (hb : B.length + l.length ≤ 1000000000000) :
    Calls Tryz.prog 62 #[.pointer (some ⟨rb, 0, none⟩), v] w fun e w' => e = .returned (.tuple #[]) ∧ Rdr W0 rb p N mb most f B (n + l.length) w' ∧ Keep (· = mb) w w' := by
  have hlen := fun W => hv.len (P := Tryz.prog) 22 3 9 undS W
  have H := hid h
  have HV := hid hv
  have HX := hid hx
  clear h hv hx
  go_enter Tryz.func62, Tryz.ntmps62
  go_wp2_with fail
  go_loopg [8, 5] l.length (fun gk iv _ X => ∃ i : Nat, iv = .int .i64 i ∧ i + gk = l.length ∧ Hid (Rdr W0 rb p N mb most f (off N (l.drop i) ++ B) (n + i) X) ∧ Hid (Keep (· = mb) w X))
  case atStart => exact ⟨0, rfl, by omega, hid (by simpa using H.out), hid (Keep.refl _ _)⟩
  case round =>
    rename World => X
    obtain ⟨i, rfl, hg, HR, HK⟩ := hrel
    by_cases hi : i < l.length
    · have hsx := strs_keep HV.out HK.out H.out.met
      obtain ⟨sb, so, hix, hcl⟩ := hsx.at (P := Tryz.prog) i hi 22 9 undS sizS
      have hix' := hix .i64
      have c1 : X.cell? ⟨rb, 1, none⟩ = some (.map (some mb)) := by rw [Lib.cell_of_heap HR.out.cur]; rfl
      have HM := hid (HX.out l[i] (List.getElem_mem hi))
      have HT := hid (off_drop N l i hi)
      have HL := hid (off_len N (l.drop (i + 1)))
      generalize l[i] = x at *
      clear hix hsx
      have HC := hid (HR.out.met.lt)
      by_cases hN : x ∈ N
      · have HT2 := hid (show off N (l.drop i) = off N (l.drop (i + 1)) by rw [HT.out, if_pos hN, List.nil_append])
        have hnm : x ∉ off N (l.drop i) ++ B := fun c => HR.out.off x c hN
        have lk := HR.out.met.look x HM.out
        rw [List.count_eq_zero_of_not_mem hnm] at lk
        obtain ⟨w2, hup, hm2, hg2⟩ := HR.out.met.never HM.out hnm 0
        have HG := hid hg2
        have HM2 := hid hm2
        clear hg2 hm2 hnm hN
        go_wp2
        go_roundg (gk - 1)
        case measure => omega
        case rel => exact ⟨i + 1, by go_num, by omega, hid (by rw [← HT2.out]; exact (HR.out.turn HG.out HM2.out HR.out.off).mono (by omega)), hid (HK.out.trans (Keep.of_grown HG.out (fun b e => by injection e with e; exact e.symm)) (fun _ _ c => c))⟩
      · have HR1 := hid (show Rdr W0 rb p N mb most f (x :: (off N (l.drop (i + 1)) ++ B)) (n + i) X from by
          have := HR.out
          rw [HT.out, if_neg hN] at this
          simpa using this)
        have HOFF := hid (show ∀ z ∈ off N (l.drop (i + 1)) ++ B, z ∉ N from fun z hz => HR1.out.off z (List.mem_cons_of_mem _ hz))
        have hll : (off N (l.drop (i + 1)) ++ B).length ≤ 1000000000000 := by
          have := HL.out
          rw [List.length_append]
          rw [List.length_drop] at this
          omega
        have HLL := hid hll
        have lk := HR1.out.met.look x HM.out
        rw [List.count_cons_self] at lk
        have hle := List.count_le_length (a := x) (l := off N (l.drop (i + 1)) ++ B)
        clear hN hll
        obtain ⟨C, hCe⟩ : ∃ C, off N (l.drop (i + 1)) ++ B = C := ⟨_, rfl⟩
        rw [hCe] at HR1 HOFF lk hle HLL
        have HCE := hid hCe
        clear hCe
        by_cases hC : x ∈ C
        · have hpos := List.count_pos_iff.2 hC
          obtain ⟨w2, hup, hm2, hg2⟩ := HR1.out.met.minus (by omega) (by have := HLL.out; omega) HM.out hC
          have HG := hid hg2
          have HM2 := hid hm2
          have hcl : C.count x ≤ 1000000000000 := by have := HLL.out; omega
          clear hg2 hm2 hC hle
          generalize C.count x = c at *
          have hp1 : (1 : Int) < ((c + 1 : Nat) : Int) := by omega
          have hw : wrap64 (((c + 1 : Nat) : Int) - 1) = (c : Int) := by rw [IntWalk.wrap64_in _ ⟨by omega, by omega⟩]; omega
          have hw' : wrap64 ((c : Int) + 1 - 1) = (c : Int) := by rw [IntWalk.wrap64_in _ ⟨by omega, by omega⟩]; omega
          go_wp2
          go_roundg (gk - 1)
          case measure => omega
          case rel => exact ⟨i + 1, by go_num, by omega, hid (by rw [HCE.out]; exact HR1.out.turn HG.out HM2.out HOFF.out), hid (HK.out.trans (Keep.of_grown HG.out (fun b e => by injection e with e; exact e.symm)) (fun _ _ c => c))⟩
        · rw [List.count_eq_zero_of_not_mem hC] at lk
          obtain ⟨w2, hup, hm2, hg2⟩ := HR1.out.met.gone HM.out hC 0
          have HG := hid hg2
          have HM2 := hid hm2
          clear hg2 hm2 hC hle
          go_wp2
          go_roundg (gk - 1)
          case measure => omega
          case rel => exact ⟨i + 1, by go_num, by omega, hid (by rw [HCE.out]; exact (HR1.out.turn HG.out HM2.out HOFF.out).mono (by omega)), hid (HK.out.trans (Keep.of_grown HG.out (fun b e => by injection e with e; exact e.symm)) (fun _ _ c => c))⟩
    · have hil : i = l.length := by omega
      subst hil
      have HR2 := HR
      rw [List.drop_length] at HR2
      clear HR
      go_wp2
      go_end0
      exact ⟨rfl, by simpa [off] using HR2.out, HK.out⟩
end
/-- What the kind of an expression brings ahead of a part. -/
theorem bro_for {k : Int} (h : k = 12 ∨ k = 13 ∨ k = 14) (s : Nam) (nm : List Nam) (i : Nat) : bro k s nm i = if i = 1 then [s] else [] := by unfold bro; rw [if_pos h]
theorem strs_lit (w : World) (l : List Nam) (hl : l.length ≤ 1000) : Strs (w.alloc (.cells (strsOf l).toArray 9)) (.slice (some ⟨w.heap.size, 0, none⟩) l.length l.length) l := by
  have := Row.ofBuild (sz := 1) w (strsOf l).toArray 9 l.length (by simp [strsOf_length]) (by omega)
  simpa [Strs] using this
set_option maxHeartbeats 4000000 in
theorem brought_any {w : World} {b o : Nat} {e : Ex} {nv pv : Value} (h : ExAt w b o e nv pv) (i : Nat) (hi : i ≤ 281474976710656) :
    Calls Tryz.prog 61 #[.pointer (some ⟨b, o, none⟩), .int .i64 i] w fun r w' => ∃ v, r = .returned v ∧ Strs w' v (bro e.kind e.s e.nm i) ∧ Below w.heap.size w w' := by
  obtain ⟨k, s, nm, l⟩ := e
  have c0 := h.c0
  have c1 := h.c1
  have c2 := h.c2
  have hn := h.is.parts.1
  simp only [Ex.kind, Ex.s, Ex.nm] at c0 c1 c2 hn ⊢
  obtain ⟨no, nn, nc, rfl⟩ : ∃ o n c, nv = .slice o n c := by
    obtain ⟨⟨a, c, h1, _⟩, _⟩ := hn
    exact ⟨_, _, _, h1⟩
  have nlen := fun W => hn.len (P := Tryz.prog) 22 3 9 undS W
  have HN := hid hn
  have HNIL := hid (Row.nil 1 w : Strs w (.slice none 0 0) [])
  have HS := hid (strs_lit w [s] (by simp))
  have HI := hid (strs_lit w [item] (by simp))
  have HA := hid (fun o => ba (b0 w) o)
  have HB := hid (b0 w)
  clear h hn
  by_cases c12 : k = 12 ∨ k = 13 ∨ k = 14
  · have hb := bro_for c12 s nm i
    by_cases ci : i = 1
    · rw [if_pos ci] at hb
      have hci : (i : Int) = 1 := by omega
      have HBR := hid hb
      subst ci
      rcases c12 with rfl | rfl | rfl
      all_goals (
        clear hb
        go_enter Tryz.func61, Tryz.ntmps61
        go_wp2
        go_ret
        refine ⟨_, rfl, ?_, HA.out _⟩
        rw [HBR.out]
        exact HS.out)
    · rw [if_neg ci] at hb
      have hci : ¬ (i : Int) = 1 := by omega
      have HBR := hid hb
      rcases c12 with rfl | rfl | rfl
      all_goals (
        clear hb
        go_enter Tryz.func61, Tryz.ntmps61
        go_wp2
        go_ret
        refine ⟨_, rfl, ?_, HB.out⟩
        rw [HBR.out]
        exact HNIL.out)
  have d12 : ¬ k = 12 := fun e => c12 (.inl e)
  have d13 : ¬ k = 13 := fun e => c12 (.inr (.inl e))
  have d14 : ¬ k = 14 := fun e => c12 (.inr (.inr e))
  by_cases c9 : k = 9
  · have hb : bro k s nm i = if i = 1 then [item] else [] := by unfold bro; rw [if_neg c12, if_pos c9]
    by_cases ci : i = 1
    · rw [if_pos ci] at hb
      have HBR := hid hb
      subst ci c9
      clear hb c12 d12 d13 d14
      go_enter Tryz.func61, Tryz.ntmps61
      go_wp2
      go_ret
      refine ⟨_, rfl, ?_, HA.out _⟩
      rw [HBR.out]
      exact HI.out
    · rw [if_neg ci] at hb
      have hci : ¬ (i : Int) = 1 := by omega
      have HBR := hid hb
      subst c9
      clear hb c12 d12 d13 d14
      go_enter Tryz.func61, Tryz.ntmps61
      go_wp2
      go_ret
      refine ⟨_, rfl, ?_, HB.out⟩
      rw [HBR.out]
      exact HNIL.out
  by_cases c15 : k = 15
  · have hb : bro k s nm i = if i = 0 then nm else [] := by unfold bro; rw [if_neg c12, if_neg c9, if_pos c15]
    by_cases ci : i = 0
    · rw [if_pos ci] at hb
      have HBR := hid hb
      subst ci c15
      clear hb c12 d12 d13 d14 c9
      go_enter Tryz.func61, Tryz.ntmps61
      go_wp2
      go_ret
      refine ⟨_, rfl, ?_, HB.out⟩
      rw [HBR.out]
      exact HN.out
    · rw [if_neg ci] at hb
      have hci : ¬ (i : Int) = 0 := by omega
      have HBR := hid hb
      subst c15
      clear hb c12 d12 d13 d14 c9
      go_enter Tryz.func61, Tryz.ntmps61
      go_wp2
      go_ret
      refine ⟨_, rfl, ?_, HB.out⟩
      rw [HBR.out]
      exact HNIL.out
  by_cases c17 : k = 17
  · have hb : bro k s nm i = if 0 < i then (nm.drop (i - 1)).take 1 else [] := by unfold bro; rw [if_neg c12, if_neg c9, if_neg c15, if_pos c17]
    by_cases ci : 0 < i
    · rw [if_pos ci] at hb
      by_cases cl : i ≤ nm.length
      · obtain ⟨v', hrun, _, _, hrow⟩ := Row.sub HN.out (i - 1) i (by omega) (by omega) 22 9 undS sizS
        have hst : Strs w v' ((nm.drop (i - 1)).take 1) := by
          unfold Strs
          have e1 : i - (i - 1) = 1 := by omega
          have e2 : ((nm.drop (i - 1)).take 1).length = 1 := by simp; omega
          rw [e1, Nat.mul_one, Nat.mul_one] at hrow
          rw [e2]
          have e3 : strsOf ((nm.drop (i - 1)).take 1) = ((strsOf nm).drop (i - 1)).take 1 := by simp [strsOf, List.map_drop, List.map_take]
          rw [e3]
          exact hrow
        have HST := hid hst
        have HBR := hid hb
        have e4 : ((i - 1 : Nat) : Int) = (i : Int) - 1 := by omega
        rw [e4] at hrun
        have hrun' := fun W => hrun .i64 .i64 W
        have hw : wrap64 ((i : Int) - 1) = (i : Int) - 1 := IntWalk.wrap64_in _ ⟨by omega, by omega⟩
        have hp0 : (0 : Int) < (i : Int) := by omega
        have hp1 : (i : Int) ≤ (nm.length : Int) := by omega
        subst c17
        clear hb c12 d12 d13 d14 c9 c15 hst hrow e4 hrun
        go_enter Tryz.func61, Tryz.ntmps61
        go_wp2
        go_ret
        refine ⟨_, rfl, ?_, HB.out⟩
        rw [HBR.out]
        exact HST.out
      · rw [List.drop_eq_nil_of_le (by omega)] at hb
        have HBR := hid hb
        have hp0 : (0 : Int) < (i : Int) := by omega
        have hp1 : ¬ (i : Int) ≤ (nm.length : Int) := by omega
        subst c17
        clear hb c12 d12 d13 d14 c9 c15
        go_enter Tryz.func61, Tryz.ntmps61
        go_wp2
        go_ret
        refine ⟨_, rfl, ?_, HB.out⟩
        rw [HBR.out]
        exact HNIL.out
    · rw [if_neg ci] at hb
      have HBR := hid hb
      have hp0 : ¬ (0 : Int) < (i : Int) := by omega
      subst c17
      clear hb c12 d12 d13 d14 c9 c15
      go_enter Tryz.func61, Tryz.ntmps61
      go_wp2
      go_ret
      refine ⟨_, rfl, ?_, HB.out⟩
      rw [HBR.out]
      exact HNIL.out
  have hb : bro k s nm i = [] := by unfold bro; rw [if_neg c12, if_neg c9, if_neg c15, if_neg c17]
  have HBR := hid hb
  clear hb c12
  go_enter Tryz.func61, Tryz.ntmps61
  go_wp2
  go_ret
  refine ⟨_, rfl, ?_, HB.out⟩
  rw [HBR.out]
  exact HNIL.out
end Go.Proofs.YtlhhjocfbafoeaaGreatDoor.Xp
