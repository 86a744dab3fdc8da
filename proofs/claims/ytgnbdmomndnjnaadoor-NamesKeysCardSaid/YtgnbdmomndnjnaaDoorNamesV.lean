/- Layer 2: the walk of the statement NamesKeys. -/
import Derived.Test.YtgnbdmomndnjnaaDoorNamesI
import Derived.Test.YtgnbdmomndnjnaaDoorNamesZ
import Derived.LoopNIn
set_option linter.unusedVariables false
set_option linter.unusedSimpArgs false
namespace Go.Proofs.YtgnbdmomndnjnaaDoor.Names
open Go Go.Proofs.YtgnbdmomndnjnaaDoor Go.Proofs.YtgnbdmomndnjnaaDoor.Utf Go.RowKit Go.Shelf
set_option maxRecDepth 100000
attribute [local go_sem] Oper.semAt_some

section
variable {F : Fence} {n : Nat} {P : Program}
/-- A loop of a known number of rounds, told by a state. -/
theorem rounds_by {Q : Exit → Act → World → Prop} {c : Code} (St : Nat → Act → World → Prop) (m : Nat)
    (hstep : ∀ j a w, j < m → St j a w → ∀ K : Act → World → Prop, (∀ a' w', St (j + 1) a' w' → K a' w') → c.wpIn F n P (Exit.then K Q) a w)
    (hlast : ∀ a w, St m a w → ∀ K : Act → World → Prop, c.wpIn F n P (Exit.then K Q) a w) {a : Act} {w : World} (h0 : St 0 a w) : (Code.loop c).wpIn F n P Q a w := by
  refine wpIn_loop_rounds (m + 1) ?_
  have key : ∀ r j a w, j + r = m → St j a w → Code.roundsIn F n P c Q (r + 1) a w := by
    intro r
    induction r with
    | zero =>
      intro j a w hj hs
      rw [roundsIn_succ]
      have e : j = m := by omega
      subst e
      exact hlast a w hs _
    | succ r ih =>
      intro j a w hj hs
      rw [roundsIn_succ]
      exact hstep j a w (by omega) hs _ (fun a' w' h => ih (j + 1) a' w' (by omega) h)
  exact key m 0 a w (by omega) h0

/-- The marks on the activation's deferred calls: each leads to a block from B on, below N, that holds none. -/
def Marks (B N : Nat) : List Deferred → World → Prop
  | [], _ => True
  | d :: r, W => (∃ D, d = { target := .collected D, args := #[] } ∧ B ≤ D ∧ D < N ∧ W.heap[D]? = some (.deferred (some [])) ∧ Marks B D r W)
theorem Marks.up {B N N' : Nat} {ds : List Deferred} {W : World} (h : Marks B N ds W) (hN : N ≤ N') : Marks B N' ds W := by
  cases ds with
  | nil => trivial
  | cons d r => obtain ⟨D, h1, h2, h3, h4, h5⟩ := h; exact ⟨D, h1, h2, by omega, h4, h5⟩
theorem Marks.keep {B : Nat} {W W' : World} : ∀ {ds : List Deferred} {N : Nat}, Marks B N ds W → (∀ j, j < N → W.heap[j]? = some (.deferred (some [])) → W'.heap[j]? = some (.deferred (some []))) → Marks B N ds W'
  | [], _, _, _ => trivial
  | d :: r, N, ⟨D, h1, h2, h3, h4, h5⟩, hk => ⟨D, h1, h2, h3, hk D h3 h4, h5.keep (fun j hj => hk j (by omega))⟩
/-- At the return all of them are taken up. -/
theorem leaves_marks {fn : Func} {tmps : Array Value} {R : Ending → World → Prop} (G : World → Prop) (B : Nat) (hG : ∀ W D o, G W → B ≤ D → W.heap[D]? = some (.deferred (some [])) → G (W.putObj D o))
    (hend : ∀ W, G W → LeavesInM F n P fn tmps R [] .returning W) : ∀ (ds : List Deferred) (N : Nat) (W : World), Marks B N ds W → G W → LeavesInM F n P fn tmps R ds .returning W
  | [], N, W, _, hg => hend W hg
  | d :: r, N, W, ⟨D, h1, h2, h3, h4, h5⟩, hg => by
    subst h1
    refine ⟨by simp, .inl ⟨_, _, rfl, run_takeDeferred h4, ?_⟩⟩
    exact leaves_marks G B hG hend r D _ (h5.keep (fun j hj h => (World.putObj_heap_other (by omega)).trans h)) (hG W D _ hg h2 h4)
end

theorem keys_all : (keys.all fun x => keyB x && !wordB x && !rightB x && plainB x && decide (x.length ≤ 20)) = true := by decide +kernel
theorem key_facts {x : List UInt8} {k : Nat} (h : keys[k]? = some x) : keyB x = true ∧ wordB x = false ∧ rightB x = false ∧ plainB x = true ∧ x.length ≤ 20 := by
  have := List.all_eq_true.1 keys_all x (List.mem_of_getElem? h)
  simp only [Bool.and_eq_true, Bool.not_eq_true', decide_eq_true_eq] at this
  exact ⟨this.1.1.1.1, this.1.1.1.2, this.1.1.2, this.1.2, this.2⟩

/-- What the rounds leave as it is. -/
structure Lies (w2 : World) (vW : Value) (W : World) : Prop where
  wt : Boxed W w2.heap.size 29 vW
  bel : Below w2.heap.size w2 W
theorem Lies.below {w2 : World} {vW : Value} {W W' : World} (h : Lies w2 vW W) (hb : Below W.heap.size W W') : Lies w2 vW W' := ⟨boxed_later h.wt hb, bt h.bel hb⟩
theorem Lies.turn {w2 : World} {vW : Value} {W W' : World} {row : Option Nat} (h : Lies w2 vW W) (hg : W.grownBy W' row) (hr : ∀ b, row = some b → w2.heap.size < b) : Lies w2 vW W' :=
  ⟨h.wt.kept hg (fun e => by have := hr _ e.symm; omega), h.bel.grown hg h.bel.size (fun k e => by have := hr k e; omega)⟩
theorem Lies.set {w2 : World} {vW : Value} {W : World} (h : Lies w2 vW W) (b : Nat) (v : Value) (hb : w2.heap.size < b) : Lies w2 vW (W.setCell ⟨b, 0, none⟩ v) :=
  h.turn (grownBy_setCell' W b v) (fun k e => by have := Option.some.inj e; omega)

theorem results_box {P : Program} {fn : Func} {p : Tmp} {t : TypeId} (h : fn.results = #[.cell p t]) {tmps : Array Value} {W : World} {b : Nat} {x : Value}
    (hp : tmps.getD p undef = .pointer (some ⟨b, 0, none⟩)) (h1 : (loadVar t ⟨b, 0, none⟩).run P W = .ok x W) : (results fn tmps).run P W = .ok x W := by
  simp only [results, h]
  have hp' : tmps[p]?.getD undef = .pointer (some ⟨b, 0, none⟩) := by simpa using hp
  simp [Sem.run_bind, Result.andThen, hp', asAddr, h1]

theorem probe {F : Fence} {n : Nat} {P : Program} {c : Code} {Q : Exit → Act → World → Prop} {a : Act} {w : World} (h : w = w → c.wpIn F n P Q a w) : c.wpIn F n P Q a w := h rfl
/-- Where a round of the outer loop begins. -/
def St (w w2 : World) (leave : Int) (vW : Value) (j : Nat) (a : Act) (W : World) : Prop :=
  ∃ (u4 u10 u11 u48 u49 u50 u51 u52 u53 u54 u55 u56 u57 : Value) (ds : List Deferred), a = { tmps := #[.int .i64 leave, .pointer (some ⟨w.heap.size, 0, none⟩), .pointer (some ⟨w.heap.size + 1, 0, none⟩), .pointer (some ⟨w2.heap.size, 0, none⟩), u4, undef, .bool true, .bool false, vW, .int .i64 (j : Int), u10, u11, undef, undef, undef, undef, undef, undef, undef, undef, undef, undef, undef, undef, undef, undef, undef, undef, undef, undef, undef, undef, undef, undef, undef, undef, undef, undef, undef, undef, undef, undef, undef, undef, undef, undef, undef, undef, u48, u49, u50, u51, u52, u53, u54, u55, u56, u57], defers := ds } ∧ Lies w2 vW W ∧ Marks (w2.heap.size + 1) W.heap.size ds W

set_option maxHeartbeats 8000000 in
theorem NamesKeys_in (leave : Int) (w : World) :
    CallsIn Fence.wide 9 Tryd.prog 5 #[.int .i64 leave] w fun e w' => e = .returned (.bool true) ∧ Below w.heap.size w w' := by
  have g1 : Fence.wide.fn 9 := trivial
  have g2 : Fence.wide.fn 22 := trivial
  have g3 : Fence.wide.fn 23 := trivial
  have g4 : Fence.wide.fn 18 := trivial
  have g5 : Fence.wide.fn 20 := trivial
  have g6 : Fence.wide.fn 17 := trivial
  have g7 : Fence.wide.fn 12 := trivial
  refine callsIn_of_wp_marks Tryd.func5 rfl trivial ?_ rfl
  simp only [Tryd.ntmps5, List.size_toArray, List.length_cons, List.length_nil, Nat.reduceAdd, Nat.reduceSub, Array.replicate_succ, Array.replicate_zero, List.push_toArray, List.append_toArray, List.nil_append, List.cons_append]
  gi_wp2_with (first
    | (gi_at_call 9; refine (callsIn_wide.2 (alive_any _)).mono ?_; rintro e w1 ⟨rfl, hb1⟩)
    | (gi_at_call 22; refine (callsIn_wide.2 (RAll_any _)).mono ?_; rintro e w2 ⟨vW, rfl, hvW, hb2⟩; obtain ⟨⟨va, vc, e0, _⟩, _⟩ := id hvW; rw [keys17] at e0; subst e0))
  simp only [World.size_alloc] at hb1
  have hs1 : w.heap.size + 2 ≤ w1.heap.size := by have := hb1.size; simp at this; omega
  have hb12 := hb2.size
  have lv : Boxed w2 w.heap.size 3 (.int .i64 leave) := (hb2.block _ (by omega)).trans ((hb1.block _ (by omega)).trans ((Boxed.new w _ _).alloc _))
  have rs : Boxed w2 (w.heap.size + 1) 4 (.bool false) := by
    have h1 := Boxed.new (w.alloc (.cells #[.int .i64 leave] 3)) 4 (.bool false)
    rw [World.size_alloc] at h1
    exact (hb2.block _ (by omega)).trans ((hb1.block _ (by omega)).trans h1)
  have hbw : Below w.heap.size w w2 := (ba (ba (b0 w) (.cells #[.int .i64 leave] 3)) (.cells #[.bool false] 4)).trans ((hb1.mono (by omega)).trans (hb2.mono (by omega)))
  refine rounds_by (St w w2 leave (.slice va 17 vc)) 2 ?step ?last ?start
  case start =>
    exact ⟨undef, undef, undef, undef, undef, undef, undef, undef, undef, undef, undef, undef, undef, [], rfl, ⟨Boxed.new w2 _ _, ba (b0 w2) _⟩, trivial⟩
  case step =>
    rintro j a W hj ⟨u4, u10, u11, u48, u49, u50, u51, u52, u53, u54, u55, u56, u57, ds, rfl, hL, hM⟩ K hK
    have hj2 : (j : Int) < 2 := by omega
    have HK := hid hK
    clear hK
    have hcw := hL.wt.cell
    gi_wp2_with (gi_at_call 23; refine (callsIn_wide.2 (All_any _)).mono ?_; rintro e w3 ⟨rfl, rfl⟩)
    have ib := Boxed.new W 3 (.int .i64 0)
    have hL1 := hL.below (ba (b0 W) (.cells #[.int .i64 0] 3))
    have hM1 : Marks (w2.heap.size + 1) (W.heap.size + 1) ds (W.alloc (.cells #[.int .i64 0] 3)) := (hM.up (by omega)).keep (fun j _ h => (Below.heap_alloc W _ j (Array.getElem?_eq_some_iff.1 h).1).trans h)
    have hsz : (W.alloc (.cells #[.int .i64 0] 3)).heap.size = W.heap.size + 1 := World.size_alloc ..
    have hww : w2.heap.size < W.heap.size := hL.wt.lt
    clear hcw hL hM
    generalize hW1 : W.alloc (.cells #[.int .i64 0] 3) = W1 at *
    clear hW1
    refine range_tells (F := Fence.wide) (n := 9) rfl (by omega) rfl trivial (enters_of Tryd.func35 (by kernel_rfl) rfl) (fun A B h => others_of_below h) (all_tells 8 (by omega) W1) Stay.trans (fun X l o o' _ h hc _ => Stay.put X l o o' h hc) (b0 W1) rfl
      (fun k X => Boxed X W.heap.size 3 (.int .i64 (k : Int)) ∧ k ≤ 17 ∧ Lies w2 (.slice va 17 vc) X ∧ Marks (w2.heap.size + 1) (W.heap.size + 1) ds X ∧ W1.heap.size ≤ X.heap.size)
      (fun c k X => c = .exit 2 ∧ (k : Int) = leave ∧ k ≤ 17 ∧ Boxed X W.heap.size 3 (.int .i64 (k : Int)) ∧ Lies w2 (.slice va 17 vc) X ∧ Marks (w2.heap.size + 1) (W.heap.size + 1) ds X ∧ W1.heap.size ≤ X.heap.size)
      ?hI ?hIx ?hIT ?hIxT ⟨ib, by omega, hL1, hM1, Nat.le_refl _⟩
      (fun x => { tmps := #[.int .i64 leave, .pointer (some ⟨w.heap.size, 0, none⟩), .pointer (some ⟨w.heap.size + 1, 0, none⟩), .pointer (some ⟨w2.heap.size, 0, none⟩), .pointer (some ⟨W.heap.size, 0, none⟩), .string (text x), .bool true, .bool false, .slice va 17 vc, .int .i64 (j : Int), .bool true, .func (.func 35) #[] #[], .string (text x), undef, undef, undef, undef, undef, undef, undef, undef, undef, undef, undef, undef, undef, undef, undef, undef, undef, undef, undef, undef, undef, undef, undef, undef, undef, undef, undef, undef, undef, undef, undef, undef, undef, undef, undef, u48, u49, u50, u51, u52, u53, u54, u55, u56, u57], defers := [] }) ?assign ?body ?done ?stop
    case hI =>
      rintro k A B row ⟨ib, hk, hL, hM, hs⟩ hg hr
      exact ⟨ib.kept hg (fun e => by have := (hr _ e.symm).1; omega), hk, hL.turn hg (fun b e => by have := (hr b e).1; omega),
        hM.keep (fun j hj h => (hg.block j (Array.getElem?_eq_some_iff.1 h).1 (fun e => by have := (hr _ e.symm).1; omega)).trans h), Nat.le_trans hs hg.size⟩
    case hIx =>
      rintro c k A B row ⟨hc, hl, hk, ib, hL, hM, hs⟩ hg hr
      exact ⟨hc, hl, hk, ib.kept hg (fun e => by have := (hr _ e.symm).1; omega), hL.turn hg (fun b e => by have := (hr b e).1; omega),
        hM.keep (fun j hj h => (hg.block j (Array.getElem?_eq_some_iff.1 h).1 (fun e => by have := (hr _ e.symm).1; omega)).trans h), Nat.le_trans hs hg.size⟩
    case hIT =>
      rintro k A B ⟨ib, hk, hL, hM, hs⟩ hb
      exact ⟨boxed_later ib hb, hk, hL.below hb, hM.keep (fun j hj h => (hb.block j (Array.getElem?_eq_some_iff.1 h).1).trans h), Nat.le_trans hs hb.size⟩
    case hIxT =>
      rintro c k A B ⟨hc, hl, hk, ib, hL, hM, hs⟩ hb
      exact ⟨hc, hl, hk, boxed_later ib hb, hL.below hb, hM.keep (fun j hj h => (hb.block j (Array.getElem?_eq_some_iff.1 h).1).trans h), Nat.le_trans hs hb.size⟩
    case assign =>
      intro lp x X K' hK'
      gi_wp2
      exact hK'
    case body =>
      rintro lp k x X hx ⟨ib, hk, hL, hM, hs⟩
      obtain ⟨k1, k2, k3, k4, k5⟩ := key_facts hx
      have hk17 : k < 17 := by have := (List.getElem?_eq_some_iff.1 hx).1; rw [keys17] at this; exact this
      obtain ⟨eb, eo, ha, hc⟩ := (hvW.below hL.bel (Nat.le_refl _)).at k (by rw [keys17]; exact hk17) 29 9 underS sizeS
      have hxk : keys[k]'(by rw [keys17]; exact hk17) = x := by
        rw [List.getElem?_eq_getElem (by rw [keys17]; exact hk17)] at hx
        exact Option.some.inj hx
      rw [hxk] at hc
      have lvX : Boxed X w.heap.size 3 (.int .i64 leave) := (hL.bel.block _ (by omega)).trans lv
      have ci := ib.cell
      have cw := hL.wt.cell
      have q1 := Keyword_any x (by omega)
      have q2 := Word_any x (by omega)
      have q3 := Right_any x (by omega)
      have q4 := Plain_any x (by omega)
      rw [k1] at q1
      rw [k2] at q2
      rw [k3] at q3
      rw [k4] at q4
      have Q1 := hid q1
      have Q2 := hid q2
      have Q3 := hid q3
      have Q4 := hid q4
      have IB := hid ib
      have LV := hid lvX
      have HL := hid hL
      have HM := hid hM
      clear q1 q2 q3 q4 ib lvX hL hM hxk hx k1 k2 k3 k4
      gi_wp2_with (first
        | (gi_at_call 18; refine (CallsIn.inRound lp (callsIn_wide.2 (Q1.out _))).mono ?_; rintro e x1 ⟨rfl, hx1⟩)
        | (gi_at_call 20; refine (CallsIn.inRound lp (callsIn_wide.2 (Q2.out _))).mono ?_; rintro e x2 ⟨rfl, hx2⟩)
        | (gi_at_call 17; refine (CallsIn.inRound lp (callsIn_wide.2 (Q3.out _))).mono ?_; rintro e x3 ⟨rfl, hx3⟩)
        | (gi_at_call 12; refine (CallsIn.inRound lp (callsIn_wide.2 (Q4.out _))).mono ?_; rintro e x4 ⟨rfl, hx4⟩; have hx14 := bt (bt (bt hx1 hx2) hx3) hx4; have ib4 := boxed_later IB.out hx14; have ci4 := ib4.cell; have fi4 := ib4.frozen; have lv4 := (boxed_later LV.out hx14).other (B' := W.heap.size) (by omega) (.int .i64 ((k : Int) + 1)); have cl4 := lv4.cell; have ci5 := (ib4.set (.int .i64 ((k : Int) + 1))).cell))
      all_goals have hk5 := (others_of_below hx14).trans (KeepsOthers.setCell x4 ⟨W.heap.size, 0, none⟩ (.int .i64 ((k : Int) + 1)))
      all_goals have hL5 := (HL.out.below hx14).set W.heap.size (.int .i64 ((k : Int) + 1)) hww
      all_goals have hM5 := HM.out.keep (fun j _ h => hk5.same j _ h rfl)
      all_goals have ib5 : Boxed (x4.setCell ⟨W.heap.size, 0, none⟩ (.int .i64 ((k : Int) + 1))) W.heap.size 3 (.int .i64 ((k + 1 : Nat) : Int)) := ib4.set _
      · have hle : (k : Int) + 1 = leave := by simpa using ‹((k : Int) + 1 == leave) = true›
        exact ⟨hk5, rfl, by omega, by omega, ib5, hL5, hM5, Nat.le_trans hs hk5.size⟩
      · refine ⟨hk5, fun j o h1 h2 h3 => ?_, ib5, by omega, hL5, hM5, Nat.le_trans hs hk5.size⟩
        exact (Below.heap_setCell x4 ⟨W.heap.size, 0, none⟩ _ j (by show j ≠ W.heap.size; omega)).trans ((hx14.block j (Array.getElem?_eq_some_iff.1 h2).1).trans h2)
    case done =>
      rintro D X hD ⟨ib, hk, hL, hM, hs⟩ hKD
      rw [keys17] at ib
      have ci := ib.cell
      have cw := hL.wt.cell
      gi_wp2
      refine HK.out _ _ ⟨_, _, _, _, _, _, _, _, _, _, _, _, _, _, rfl, hL, ⟨D, rfl, by omega, (Array.getElem?_eq_some_iff.1 hKD).1, hKD, hM.up (by omega)⟩⟩
    case stop =>
      rintro D c k X hD hk0 ⟨rfl, hle, hk, ib, hL, hM, hs⟩ hKD
      have lvX : Boxed X w.heap.size 3 (.int .i64 leave) := (hL.bel.block _ (by omega)).trans lv
      have ci := ib.cell
      have cw := hL.wt.cell
      have cl := lvX.cell
      have hq : ((k : Int) == leave) = true := by rw [beq_iff_eq]; exact hle
      by_cases hk7 : k = 17
      · subst hk7
        gi_wp2
        refine HK.out _ _ ⟨_, _, _, _, _, _, _, _, _, _, _, _, _, _, rfl, hL, ⟨D, rfl, by omega, (Array.getElem?_eq_some_iff.1 hKD).1, hKD, hM.up (by omega)⟩⟩
      · have hk8 : ((k : Int) == 17) = false := by rw [beq_eq_false_iff_ne]; omega
        gi_wp2
        refine HK.out _ _ ⟨_, _, _, _, _, _, _, _, _, _, _, _, _, _, rfl, hL, ⟨D, rfl, by omega, (Array.getElem?_eq_some_iff.1 hKD).1, hKD, hM.up (by omega)⟩⟩
  case last =>
    rintro a W ⟨u4, u10, u11, u48, u49, u50, u51, u52, u53, u54, u55, u56, u57, ds, rfl, hL, hM⟩ K
    have rs' : Boxed W (w.heap.size + 1) 4 (.bool false) := (hL.bel.block _ (by omega)).trans rs
    have rc := rs'.cell
    have rf := rs'.frozen
    gi_wp2
    refine leaves_marks (fun X => Boxed X (w.heap.size + 1) 4 (.bool true) ∧ Below w.heap.size w X) (w2.heap.size + 1) ?mG ?mend ds W.heap.size _ (hM.keep (fun D _ h => (KeepsOthers.setCell W ⟨w.heap.size + 1, 0, none⟩ (.bool true)).same D _ h rfl))
      ⟨rs'.set _, (hbw.trans (hL.bel.mono (by omega))).setCell (p := ⟨w.heap.size + 1, 0, none⟩) (by simp) _⟩
    case mG =>
      rintro X D o ⟨x1, x2⟩ hD hK
      exact ⟨x1.kept (grownBy_putObj' X D o) (fun e => by have := Option.some.inj e; omega), x2.grown (grownBy_putObj' X D o) x2.size (fun k e => by have := Option.some.inj e; omega)⟩
    case mend =>
      rintro X ⟨x1, x2⟩
      exact ⟨_, results_box rfl rfl (loadVar_plain underO rfl x1.cell), rfl, x2⟩

theorem NamesKeys_walk (leave : Int) (w : World) :
    Calls Tryd.prog 5 #[.int .i64 leave] w fun e w' => e = .returned (.bool true) ∧ Below w.heap.size w w' := callsIn_wide.1 (NamesKeys_in leave w)
end Go.Proofs.YtgnbdmomndnjnaaDoor.Names
