/- Layer 9: the iterator of two rising rows: both. -/
import Derived.Test.YthggoohchjifnaaDoorScI
set_option linter.unusedVariables false
set_option linter.unusedSimpArgs false
namespace Go.Proofs.YthggoohchjifnaaDoor.Sc
open Go Go.Proofs.YthggoohchjifnaaDoor Go.Proofs.YthggoohchjifnaaDoor.Utf Go.Proofs.YthggoohchjifnaaDoor.Names Go.RowKit Go.Shelf
set_option maxRecDepth 100000
attribute [local go_sem] Oper.semAt_some

theorem slice_form {w : World} {v : Value} {l : List (List UInt8)} (h : Strs w v l) : ∃ a n c, v = .slice a n c := by
  obtain ⟨⟨a, c, e, _⟩, _⟩ := h
  exact ⟨a, _, c, e⟩

/-- All but the first. -/
theorem StrsD.tail {D : Nat → Prop} {w : World} {v : Value} {y : List UInt8} {r : List (List UInt8)} (h : StrsD D w v (y :: r)) :
    ∃ v', (∀ k W, (Instr.slice 22 v (some (.int k 1)) none none).run Tryd.prog W = .ok v' W) ∧ StrsD D w v' r := by
  obtain ⟨v', r1, r2, r3, hv⟩ := Row.sub (P := Tryd.prog) h.1 1 (y :: r).length (by simp) (Nat.le_refl _) 22 9 Tryd.underlying22 Tryd.sizeOf9
  have r2' : ∀ k W, (Instr.slice 22 v (some (.int k 1)) none none).run Tryd.prog W = .ok v' W := r2 rfl
  refine ⟨v', r2', ?_, ?_⟩
  · have e1 : ((strsOf (y :: r)).drop (1 * 1)).take (((y :: r).length - 1) * 1) = strsOf r := by rw [List.take_of_length_le (by simp [strsOf])]; simp [strsOf]
    rw [e1] at hv
    exact hv
  · obtain ⟨⟨⟨a, c, rfl, h1, h2, h3, h4, h5⟩, h6⟩, hD⟩ := h
    obtain ⟨b, off, rfl, _⟩ := h5 (by simp [strsOf])
    obtain ⟨lo, hlo⟩ : ∃ lo, lo = 1 := ⟨1, rfl⟩
    have e : (Instr.slice 22 (.slice (some ⟨b, off, none⟩) (y :: r).length c) (some (.int .i64 (lo : Nat))) none none).run Tryd.prog w = .ok v' w := by rw [hlo]; exact r2 rfl .i64 w
    have hs' : ∀ W, (sizeOf 9).run Tryd.prog W = .ok 1 W := Tryd.sizeOf9
    have hln : (lo : Int) ≤ (((y :: r).length : Nat) : Int) := by rw [hlo]; simp; omega
    intro b' o' n' c' e' hn'
    subst e'
    have hDb := hD b off _ _ rfl (by simp)
    generalize (y :: r).length = n at *
    simp [Instr.slice, run_underlying Tryd.underlying22, Instr.sliceBounds, run_sliceBound, sliced, hs', hln, Addr.add_lit] at e
    have e1 := e.1
    split at e1
    all_goals
      have e2 : b = b' := by simpa using congrArg (fun a : Option Addr => (a.map (·.block)).getD 0) e1
      rw [← e2]; exact hDb

/-- Between two rounds: what is told, t texts; what is left of the own ones, r. -/
structure Mid (D : Nat → Prop) (W : World) (lp : Nat) (M : List (List UInt8)) (J : Nat → World → Prop) (o r : List (List UInt8)) (t : Nat) (vr : Value) (A : World) : Prop where
  rest : Boxed A (W.heap.size + 1) 22 vr
  yld : Boxed A W.heap.size 37 (.func (.yield lp) #[] #[])
  row : StrsD D A vr r
  told : J t A
  left : M.drop t = mrg o r
  few : t ≤ M.length
  lies : Lies D W A
theorem Mid.le {D : Nat → Prop} {W : World} {lp : Nat} {M : List (List UInt8)} {J : Nat → World → Prop} {o r : List (List UInt8)} {t : Nat} {vr : Value} {A : World} (h : Mid D W lp M J o r t vr A) : W.heap.size + 2 ≤ A.heap.size := by
  have := (Array.getElem?_eq_some_iff.1 (show A.heap[W.heap.size + 1]? = some _ from h.rest)).1
  omega
/-- Through the iterator's own steps. -/
theorem Mid.steps {D : Nat → Prop} {W : World} {lp hi lo : Nat} {M : List (List UInt8)} {J : Nat → World → Prop} {o r : List (List UInt8)} {t : Nat} {vr : Value} {A B : World} (h : Mid D W lp M J o r t vr A) (hD : ∀ b, D b → b < W.heap.size)
    (hJ : ∀ k A B, J k A → Steps W.heap.size hi A B → J k B) (hs : Steps lo hi A B) (h2 : W.heap.size + 2 ≤ lo) : Mid D W lp M J o r t vr B := by
  have hz := h.le
  have hsame : Lies D A B := fun b hb => hs.same b (by have := hD b hb; omega) (by have := hD b hb; omega)
  exact ⟨(hs.same _ (by omega) (by omega)).trans h.rest, (hs.same _ (by omega) (by omega)).trans h.yld, h.row.same hsame, hJ _ _ _ h.told (hs.mono (by omega) (Nat.le_refl _)), h.left, h.few, h.lies.trans hsame⟩
theorem drop_head {α : Type} {l : List α} {t : Nat} {y : α} {r : List α} (h : l.drop t = y :: r) : l[t]? = some y ∧ l.drop (t + 1) = r ∧ t < l.length := by
  have hl : t < l.length := by
    rcases Nat.lt_or_ge t l.length with c | c
    · exact c
    · rw [List.drop_of_length_le c] at h; cases h
  rw [List.drop_eq_getElem_cons hl] at h
  injection h with h1 h2
  exact ⟨by rw [List.getElem?_eq_getElem hl, h1], h2, hl⟩

set_option maxHeartbeats 8000000 in
theorem both_tells (D : Nat → Prop) (c g : Nat) (lb : Array Value) (xs own : List (List UInt8)) (bo bt : Nat) (vo : Value) (w : World) (hbo : D bo) (hbt : D bt) (ho : w.cell? ⟨bo, 0, none⟩ = some vo) (hso : StrsD D w vo own)
    (ht : w.cell? ⟨bt, 0, none⟩ = some (.func (.func g) #[] lb)) (eg : ∀ args w, (callFunc g args).run Tryd.prog w = .ok (.enter g args) w) (hseq : TellsD Tryd.prog D c g lb encT xs w) :
    TellsD Tryd.prog D (4 + c) 65 #[.pointer (some ⟨bo, 0, none⟩), .pointer (some ⟨bt, 0, none⟩)] encT (mrg xs own) w := by
  intro lp J Jx W hW hDW hJ hJx hY h0
  obtain ⟨M, hMe⟩ : ∃ M, mrg xs own = M := ⟨_, rfl⟩
  rw [hMe] at hY ⊢
  obtain ⟨ao, no, co, rfl⟩ := slice_form hso.1
  have hsoW : StrsD D W (.slice ao no co) own := hso.same hW
  have hoW : W.cell? ⟨bo, 0, none⟩ = some (.slice ao no co) := by rw [show W.cell? ⟨bo, 0, none⟩ = w.cell? ⟨bo, 0, none⟩ from Same.cell (D := D) hW hbo]; exact ho
  have htW : W.cell? ⟨bt, 0, none⟩ = some (.func (.func g) #[] lb) := by rw [show W.cell? ⟨bt, 0, none⟩ = w.cell? ⟨bt, 0, none⟩ from Same.cell (D := D) hW hbt]; exact ht
  have oa : ∀ o, (W.alloc o).cell? ⟨bo, 0, none⟩ = some (.slice ao no co) := fun o => by simp only [World.cell?, Below.heap_alloc W o bo (hDW bo hbo)]; exact hoW
  have ta : ∀ o o', ((W.alloc o).alloc o').cell? ⟨bt, 0, none⟩ = some (.func (.func g) #[] lb) := fun o o' => by
    have h1 := hDW bt hbt
    simp only [World.cell?, Below.heap_alloc (W.alloc o) o' bt (by simp; omega), Below.heap_alloc W o bt h1]; exact htW
  obtain ⟨W2, hW2⟩ : ∃ W2, (W.alloc (.cells #[.func (.yield lp) #[] #[]] 37)).alloc (.cells #[.slice ao no co] 22) = W2 := ⟨_, rfl⟩
  have hz2 : W2.heap.size = W.heap.size + 2 := by rw [← hW2]; simp
  have st0 : Steps W.heap.size (W.heap.size + (4 + c)) W W2 := by rw [← hW2]; exact (Steps.alloc _ _ _ _).trans (Steps.alloc _ _ _ _)
  have hl2 : Lies D W W2 := fun b hb => st0.same b (hDW b hb) (by have := hDW b hb; omega)
  have b0 : Boxed W2 W.heap.size 37 (.func (.yield lp) #[] #[]) := by rw [← hW2]; exact (Boxed.new W _ _).alloc _
  have b1 : Boxed W2 (W.heap.size + 1) 22 (.slice ao no co) := by
    rw [← hW2]
    have h1 := Boxed.new (W.alloc (.cells #[.func (.yield lp) #[] #[]] 37)) 22 (.slice ao no co)
    rwa [World.size_alloc] at h1
  have tb : W2.cell? ⟨bt, 0, none⟩ = some (.func (.func g) #[] lb) := by rw [← hW2]; exact ta _ _
  have HM0 : Hid (Mid D W lp M J xs own 0 (.slice ao no co) W2) := hid ⟨b1, b0, hsoW.same hl2, hJ _ _ _ h0 st0, by rw [List.drop_zero]; exact hMe.symm, Nat.zero_le _, hl2⟩
  have HQ := hid hseq
  have HJ := hid hJ
  have HJX := hid hJx
  have HY := hid hY
  have HD := hid hDW
  have HWL := hid (Lies.trans hW hl2)
  clear hJ hJx hY h0 hso hsoW hseq hDW hW hl2 b0 b1 st0 ho ht
  refine callsIn_of_wp_marks Tryd.func65 rfl trivial ?_ rfl
  simp only [Tryd.ntmps65, List.size_toArray, List.length_cons, List.length_nil, Nat.reduceAdd, Nat.reduceSub, Array.replicate_succ, Array.replicate_zero, List.push_toArray, List.append_toArray, List.nil_append, List.cons_append]
  have mixed : Tryd.prog.follows Departure.mixedOrders = true := by kernel_rfl
  gi_wp2
  refine range_tellsD (n := 9) (gf := g) (lb := lb) rfl eg HQ.out (fun b hb => by rw [hz2]; have := HD.out b hb; omega) HWL.out rfl
    (fun k A => ∃ r t vr, Mid D W lp M J (xs.drop k) r t vr A) (fun cd _ A => cd = .ret ∧ ∃ t, t ≤ M.length ∧ Jx t A) ?hI ?hIx ?h0
    (fun x => { tmps := #[.func (.yield lp) #[] #[], .pointer (some ⟨bo, 0, none⟩), .pointer (some ⟨bt, 0, none⟩), .pointer (some ⟨W.heap.size, 0, none⟩), .pointer (some ⟨W.heap.size + 1, 0, none⟩), .string (text x), undef, undef, .slice ao no co, .func (.func g) #[] lb, .string (text x), undef, undef, undef, undef, undef, undef, undef, undef, undef, undef, undef, undef, undef, undef, undef, undef, undef, undef, undef, undef, undef, undef, undef, undef, undef, undef, undef, undef, undef, undef, undef, undef, undef], defers := [] })
    ?assign ?body ?done ?stop
  case hI =>
    rintro k A B ⟨r, t, vr, hm⟩ hs
    exact ⟨r, t, vr, hm.steps (hi := W.heap.size + (4 + c)) (lo := W.heap.size + 2) HD.out HJ.out (hs.mono (by omega) (by omega)) (Nat.le_refl _)⟩
  case hIx =>
    rintro cd k A B ⟨h1, t, ht, hx⟩ hs
    exact ⟨h1, t, ht, HJX.out _ _ _ hx (hs.mono (by omega) (by omega))⟩
  case h0 => exact ⟨own, 0, _, HM0.out⟩
  case assign =>
    intro l2 x A K hK
    gi_wp2
    exact hK
  case body =>
    rintro l2 k x A hx hsA ⟨r, t, vr, hm⟩
    have hdk : xs.drop k = x :: xs.drop (k + 1) := by
      obtain ⟨hl, rfl⟩ := List.getElem?_eq_some_iff.1 hx
      exact List.drop_eq_getElem_cons hl
    rw [hdk] at hm
    have HM := hid hm
    clear hm hdk hx
    gi_wp2
    gi_loopg [12] r.length (fun kx s12 wr => ∃ r t vr, r.length ≤ kx ∧ Hid (Mid D W lp M J (x :: xs.drop (k + 1)) r t vr wr ∧ Lies (fun i => D i ∨ (W2.heap.size ≤ i ∧ i < W2.heap.size + 2 + c)) A wr ∧ A.heap.size ≤ wr.heap.size))
    case atStart => exact ⟨r, t, vr, Nat.le_refl _, hid ⟨HM.out, fun _ _ => rfl, Nat.le_refl _⟩⟩
    case round =>
      obtain ⟨r, t, vr, hg, I⟩ := hrel
      have hlen := fun X => I.out.1.row.1.len (P := Tryd.prog) 22 3 9 Tryd.underlying22 X
      have hcr := I.out.1.rest.cell
      have hcy := I.out.1.yld.cell
      cases r with
      | nil =>
        have hlen0 : ∀ X, (Builtin.len_ #[22] 3 #[vr]).run Tryd.prog X = .ok (.int .i64 0) X := hlen
        have hd := I.out.1.left
        rw [mrg_none] at hd
        obtain ⟨hd1, hd2, hd3⟩ := drop_head hd
        obtain ⟨fn, tmps, assign, body, hy, hR⟩ := yield_any (m' := 6) (HY.out t x wr hd1 (by have := I.out.2.2; omega) I.out.1.told)
        have e1 : encT x = .string (text x) := rfl
        rw [e1] at hy
        clear hlen hd hd1
        have HR := hid hR
        clear hR
        gi_wp2
        refine HR.out.mono ?_
        rintro e W3 ⟨bb, rfl, hl3, hz3, hJ3⟩
        have K3 := hid (And.intro hl3 hJ3)
        have Z3 := hid (Nat.le_trans I.out.2.2 hz3)
        clear hl3 hJ3 hz3
        cases bb
        · gi_wp2
          exact ⟨I.out.2.1.trans fun i hi => K3.out.1 i (hi.imp id fun h => by omega), Z3.out, rfl, t + 1, hd3, by simpa using K3.out.2⟩
        · gi_wp2
          have hsame : Lies D wr W3 := fun i hi => K3.out.1 i (.inl hi)
          exact ⟨I.out.2.1.trans fun i hi => K3.out.1 i (hi.imp id fun h => by omega), Z3.out, [], t + 1, vr, ⟨(K3.out.1 _ (.inr (by omega))).trans I.out.1.rest, (K3.out.1 _ (.inr (by omega))).trans I.out.1.yld, I.out.1.row.same hsame, by simpa using K3.out.2, hd2, hd3, I.out.1.lies.trans hsame⟩⟩
      | cons y r =>
        have hle := I.out.1.row.1.le
        obtain ⟨b2, o2, hix, hcl⟩ := I.out.1.row.1.at (P := Tryd.prog) 0 (by simp) 22 9 Tryd.underlying22 Tryd.sizeOf9
        have hix' : ∀ kk X, (Instr.indexAt 22 vr (.int kk 0)).run Tryd.prog X = .ok (.pointer (some ⟨b2, o2, none⟩)) X := hix
        have hcl' : wr.cell? ⟨b2, o2, none⟩ = some (.string (text y)) := hcl
        obtain ⟨N, hN⟩ : ∃ N, (y :: r).length = N := ⟨_, rfl⟩
        have hNr : N = r.length + 1 := by rw [← hN]; simp
        have hN0 : (0 : Int) < (N : Int) := by omega
        rw [hN] at hlen
        have htl := tless y x
        have HNR := hid hNr
        clear hix hcl hN hNr
        cases hp : Op.bytesLess y x
        · rw [hp] at htl
          have hd := I.out.1.left
          rw [mrg_ge hp] at hd
          obtain ⟨hd1, hd2, hd3⟩ := drop_head hd
          obtain ⟨fn, tmps, assign, body, hy, hR⟩ := yield_any (m' := 6) (HY.out t x wr hd1 (by have := I.out.2.2; omega) I.out.1.told)
          have e1 : encT x = .string (text x) := rfl
          rw [e1] at hy
          clear hd hd1 hp
          have HR := hid hR
          clear hR
          gi_wp2
          refine HR.out.mono ?_
          rintro e W3 ⟨bb, rfl, hl3, hz3, hJ3⟩
          have K3 := hid (And.intro hl3 hJ3)
          have Z3 := hid (Nat.le_trans I.out.2.2 hz3)
          clear hl3 hJ3 hz3
          cases bb
          · gi_wp2
            exact ⟨I.out.2.1.trans fun i hi => K3.out.1 i (hi.imp id fun h => by omega), Z3.out, rfl, t + 1, hd3, by simpa using K3.out.2⟩
          · gi_wp2
            have hsame : Lies D wr W3 := fun i hi => K3.out.1 i (.inl hi)
            exact ⟨I.out.2.1.trans fun i hi => K3.out.1 i (hi.imp id fun h => by omega), Z3.out, (y :: r), t + 1, vr, ⟨(K3.out.1 _ (.inr (by omega))).trans I.out.1.rest, (K3.out.1 _ (.inr (by omega))).trans I.out.1.yld, I.out.1.row.same hsame, by simpa using K3.out.2, hd2, hd3, I.out.1.lies.trans hsame⟩⟩
        · rw [hp] at htl
          have hd := I.out.1.left
          rw [mrg_lt hp] at hd
          obtain ⟨hd1, hd2, hd3⟩ := drop_head hd
          have HY2 := hid (fun q => yield_any (m' := 6) (HY.out t y (wr.drewN q) hd1 (by have := I.out.2.2; show _ ≤ wr.heap.size; omega) (HJ.out _ _ _ I.out.1.told (Steps.drewN _ _ _ q))))
          have HDD := hid (And.intro hd2 hd3)
          obtain ⟨fn, tmps, assign, body, hy, hR⟩ := HY2.out 1
          have e1 : encT y = .string (text y) := rfl
          rw [e1] at hy
          rw [show wr.drewN 1 = wr.drew from rfl] at hy hR
          have HR := hid hR
          clear hd hd1 hd2 hd3 hp hR
          gi_wp2
          gi_region_with_o ((refine HR.out.mono ?_; rintro e W3 ⟨bb, rfl, hl3, hz3, hJ3⟩; have K3 := hid (And.intro hl3 hJ3); have Z3 := hid (Nat.le_trans I.out.2.2 hz3); clear hl3 hJ3 hz3))
          all_goals
            cases bb
            · gi_wp2
              exact ⟨I.out.2.1.trans fun i hi => K3.out.1 i (hi.imp id fun h => by omega), Z3.out, rfl, t + 1, HDD.out.2, by simpa using K3.out.2⟩
            · have hsame : Lies D wr W3 := fun i hi => K3.out.1 i (.inl hi)
              obtain ⟨v3, r3, hv3⟩ := StrsD.tail (I.out.1.row.same hsame)
              obtain ⟨a3, n3, c3, rfl⟩ := slice_form hv3.1
              have b3 : Boxed W3 (W.heap.size + 1) 22 vr := (K3.out.1 _ (.inr (by omega))).trans I.out.1.rest
              have y3 : Boxed W3 W.heap.size 37 (.func (.yield lp) #[] #[]) := (K3.out.1 _ (.inr (by omega))).trans I.out.1.yld
              have hc3 := b3.cell
              have hf3 := b3.frozen
              have B3 := hid b3
              have Y3 := hid y3
              have V3 := hid hv3
              have HSM := hid hsame
              clear b3 y3 hv3 hsame
              gi_wp2
              go_roundg r.length
              case measure => have := HNR.out; simp at hg; omega
              case rel =>
                have hss : Same D W3 (W3.setCell ⟨W.heap.size + 1, 0, none⟩ (.slice a3 n3 c3)) := fun i hi => Below.heap_setCell W3 _ _ i (by have := HD.out i hi; simp; omega)
                refine ⟨r, t + 1, _, Nat.le_refl _, hid ⟨⟨B3.out.set _, Y3.out.other (by omega) _, V3.out.same hss, HJ.out _ _ _ (by simpa using K3.out.2) (Steps.setCell _ _ _ _ _ (by simp) (by simp; omega)), HDD.out.1, HDD.out.2, (I.out.1.lies.trans HSM.out).trans hss⟩, fun i hi => ?_, (by simp; exact Z3.out)⟩⟩
                rw [Below.heap_setCell W3 _ _ i (by rcases hi with hi | hi; have := HD.out i hi; simp; omega; simp; omega), K3.out.1 i (hi.imp id fun h => by omega)]
                exact I.out.2.1 i hi
  case done =>
    rintro A hsA ⟨r, t, vr, hm⟩ hK
    rw [List.drop_of_length_le (Nat.le_refl _)] at hm
    rw [hz2] at hK ⊢
    have hlen := fun X => hm.row.1.len (P := Tryd.prog) 22 3 9 Tryd.underlying22 X
    have hle := hm.row.1.le
    have hcr := hm.rest.cell
    have hcy := hm.yld.cell
    have HM := hid hm
    have HK := hid hK
    have hleft : M.drop t = r := hm.left
    have hlm : t + r.length = M.length := by rw [← hleft, List.length_drop]; have := hm.few; omega
    have HLM := hid hlm
    have HLF := hid hleft
    clear hm hK hleft hlm
    gi_wp2
    gi_loopg [35] r.length (fun kx s35 wr => ∃ i : Nat, s35 = .int .i64 i ∧ i ≤ r.length ∧ r.length - i ≤ kx ∧ Hid (J (t + i) wr ∧ Lies (fun i => D i ∨ (W.heap.size ≤ i ∧ i < W.heap.size + (4 + c))) A wr ∧ A.heap.size ≤ wr.heap.size))
    case atStart => exact ⟨0, rfl, Nat.zero_le _, by omega, hid ⟨HM.out.told, fun _ _ => rfl, Nat.le_refl _⟩⟩
    case round =>
      obtain ⟨i, rfl, hi, hg, I⟩ := hrel
      have hK3 : wr.heap[W.heap.size + 2]? = some (.deferred (some [])) := (I.out.2.1 _ (.inr (by omega))).trans HK.out
      by_cases hil : i < r.length
      · have hs := (HM.out.row.same (W := wr) fun x hx => I.out.2.1 x (.inl hx)).1
        obtain ⟨b2, o2, hix, hcl⟩ := hs.at (P := Tryd.prog) i hil 22 9 Tryd.underlying22 Tryd.sizeOf9
        have hcy3 : wr.cell? ⟨W.heap.size, 0, none⟩ = some (.func (.yield lp) #[] #[]) := Boxed.cell (show Boxed wr W.heap.size 37 (.func (.yield lp) #[] #[]) from (I.out.2.1 W.heap.size (.inr (by omega))).trans HM.out.yld)
        have hme : M[t + i]? = some r[i] := by
          rw [← List.getElem?_drop, HLF.out, List.getElem?_eq_getElem hil]
        obtain ⟨fn, tmps, assign, body, hy, hR⟩ := yield_any (m' := 8) (HY.out (t + i) r[i] wr hme (by have := I.out.2.2; omega) I.out.1)
        have HR := hid hR
        have e1 : encT r[i] = .string (text r[i]) := rfl
        rw [e1] at hy
        have HK3 := hid hK3
        clear hs hR hme hK3
        generalize text r[i] = ty at *
        gi_wp2
        refine HR.out.mono ?_
        rintro e W3 ⟨bb, rfl, hl3, hz3, hJ3⟩
        have K3 := hid (And.intro hl3 hJ3)
        have Z3 := hid (Nat.le_trans I.out.2.2 hz3)
        clear hl3 hJ3 hz3
        cases bb
        · gi_wp2
          refine ⟨by simp, .inl ⟨_, _, rfl, run_takeDeferred ((K3.out.1 (W.heap.size + 2) (.inr (by omega))).trans HK3.out), ?_⟩⟩
          exact ⟨_, results_none rfl _ _ _, ⟨_, rfl⟩, (by simp [World.putObj]; have := Z3.out; omega), .inr ⟨t + i + 1, by have := HLM.out; omega, HJX.out _ _ _ (by simpa using K3.out.2) (Steps.putObj _ _ _ _ _ (by omega) (by omega))⟩⟩
        · gi_wp2
          go_roundg (r.length - (i + 1))
          case measure => omega
          case rel => exact ⟨i + 1, by go_num, by omega, Nat.le_refl _, hid ⟨by rw [← Nat.add_assoc]; simpa using K3.out.2, I.out.2.1.trans K3.out.1, Z3.out⟩⟩
      · have e : i = r.length := by omega
        subst e
        have HE := I
        have HK3 := hid hK3
        clear I hK3
        gi_wp2
        refine ⟨by simp, .inl ⟨_, _, rfl, run_takeDeferred HK3.out, ?_⟩⟩
        exact ⟨_, results_none rfl _ _ _, ⟨_, rfl⟩, (by simp [World.putObj]; have := HE.out.2.2; omega), .inl (by rw [← HLM.out]; exact HJ.out _ _ _ HE.out.1 (Steps.putObj _ _ _ _ _ (by omega) (by omega)))⟩
  case stop =>
    rintro cd k A hk hsA ⟨rfl, t, ht, hx⟩ hK
    gi_wp2
    refine ⟨by simp, .inl ⟨_, _, rfl, run_takeDeferred hK, ?_⟩⟩
    exact ⟨_, results_none rfl _ _ _, ⟨_, rfl⟩, (by simp [World.putObj]; omega), .inr ⟨t, ht, HJX.out _ _ _ hx (Steps.putObj _ _ _ _ _ (by omega) (by omega))⟩⟩
end Go.Proofs.YthggoohchjifnaaDoor.Sc
