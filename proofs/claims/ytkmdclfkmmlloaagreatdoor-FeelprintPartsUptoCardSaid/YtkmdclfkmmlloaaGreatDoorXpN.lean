/- Layer 10: contract of next. -/
import Derived.Test.YtkmdclfkmmlloaaGreatDoorXpT
set_option linter.unusedVariables false
set_option linter.unusedSimpArgs false
namespace Go.Proofs.YtkmdclfkmmlloaaGreatDoor.Xp
open Go Go.Proofs.YtkmdclfkmmlloaaGreatDoor Go.RowKit
set_option maxRecDepth 100000

/-- An expression at a place; what is within it lies in an older world. -/
structure At (V : World) (w : World) (b o : Nat) (x : Ex) (nv pv : Value) : Prop where
  cell : ∀ j, j < 4 → w.cell? ⟨b, o + j, none⟩ = (ecells (x, nv, pv))[j]?
  is : IsE V x nv pv
theorem At.at {V w : World} {b o : Nat} {x : Ex} {nv pv : Value} (h : At V w b o x nv pv) (hb : Below V.heap.size V w) : ExAt w b o x nv pv :=
  ⟨by simpa [ecells] using h.cell 0 (by omega), by simpa [ecells] using h.cell 1 (by omega), by simpa [ecells] using h.cell 2 (by omega), by simpa [ecells] using h.cell 3 (by omega), h.is.later hb⟩
/-- What next tells. -/
def NextOk (V : World) (s1 tb : Nat) (r : List (List Ex)) (e : Ending) (r' : List (List Ex)) (w' : World) : Prop :=
  (pop r = none ∧ e = .returned (.pointer none) ∧ r' = []) ∨ ∃ q x xs b o nv pv, pop r = some (q, x, xs) ∧ e = .returned (.pointer (some ⟨b, o, none⟩)) ∧ r' = x.l :: xs :: q ∧ At V w' b o x nv pv ∧ (b < V.heap.size ∨ b = s1)
/-- A row less. -/
theorem Trail.cut {V X : World} {s1 tb g cap : Nat} {l : List Ex} {rest : List (List Ex)} {n : Nat} (h : Trail V s1 tb (.slice (some ⟨g, 0, none⟩) n cap) (l :: rest) X) (hn : n = rest.length + 1) :
    Trail V s1 tb (.slice (some ⟨g, 0, none⟩) rest.length cap) rest (X.setCell ⟨tb, 0, none⟩ (.slice (some ⟨g, 0, none⟩) rest.length cap)) := by
  subst hn
  obtain ⟨st, h1, h2, h3⟩ := h.has
  have hl : st.length = rest.length + 1 := by have := congrArg List.length h1; simpa using this
  obtain ⟨st0, p, hst⟩ : ∃ a x, st = a ++ [x] := (snoc_cases st).resolve_left (fun e => by rw [e] at hl; simp at hl)
  have hgt : g ≠ tb := fun e => h.ne (by rw [e]; rfl)
  rw [hst, List.map_append, List.reverse_cons] at h1
  have h4 := List.append_inj' h1 (by simp)
  have hl0 : st0.length = rest.length := by rw [hst] at hl; simpa using hl
  have hk : Keep (· = tb) X (X.setCell ⟨tb, 0, none⟩ (.slice (some ⟨g, 0, none⟩) rest.length cap)) := Keep.set X tb 0 _ rfl
  refine ⟨hk.below h.old (fun b hb => by rw [hb]; exact h.low), h.low, ⟨h.top.1, Nat.lt_of_lt_of_le h.top.2.1 hk.size, h.top.2.2⟩, ?_, fun e => hgt (by simpa [Value.ownBlock] using e), st0, h4.1, ?_, fun x hx => (h3 x (by rw [hst]; simp [hx])).keep hk (fun b hb => ⟨by rw [hb]; exact h.low, fun e => h.top.2.2 (.inl (e.symm.trans hb))⟩)⟩
  · simp [World.setCell, Array.getElem?_modify, h.cur]
  · rw [hl] at h2
    have h5 := own_cut h2 (k := rest.length) (by omega)
    rw [Nat.mul_one, hst, List.map_append, ← hl0, ← List.length_map (f := fun x : List Ex × Value => x.2), List.take_left, List.length_map, hl0] at h5
    rw [hl0]
    exact own_same h5 (fun b hb => Below.heap_setCell X ⟨tb, 0, none⟩ _ b (fun e => hgt (((show g = b by simpa [Value.ownBlock] using hb)).trans e)))
/-- The first of a row is taken: the row is less by it, and its parts come behind. -/
theorem Trail.push {V w2 : World} {s1 tb g2 cap2 : Nat} {x : Ex} {xs : List Ex} {rest : List (List Ex)} {v' pv : Value} {st0 : List (List Ex × Value)} (hold : Below V.heap.size V w2) (hlow : V.heap.size ≤ tb) (htop : V.heap.size ≤ s1 ∧ s1 < w2.heap.size ∧ s1 ≠ tb ∧ s1 ≠ g2) (hne : g2 ≠ tb) (hrev : st0.map (·.1) = rest.reverse) (hent : ∀ y ∈ st0, Ent V s1 w2 y.2 y.1)
    (hv : Ent V s1 w2 v' xs) (hp : Ent V s1 w2 pv x.l) (ho : w2.ownsRow V.heap.size 23 1 (.slice (some ⟨g2, 0, none⟩) (st0.length + 1 + 1) cap2) (st0.length + 1 + 1) (st0.map (·.2) ++ [v'] ++ [pv]))
    (hc : w2.heap[tb]? = some (.cells #[.slice (some ⟨g2, 0, none⟩) (st0.length + 1 + 1) cap2] 136 (0, 0))) :
    Trail V s1 tb (.slice (some ⟨g2, 0, none⟩) (st0.length + 1 + 1) cap2) (x.l :: xs :: rest) w2 := by
  refine ⟨hold, hlow, ⟨htop.1, htop.2.1, ?_⟩, hc, fun e => hne (by simpa [Value.ownBlock] using e), st0 ++ [(xs, v'), (x.l, pv)], by simp [hrev], by simpa using ho, fun y hy => ?_⟩
  · rintro (c | c)
    · exact htop.2.2.1 c
    · exact htop.2.2.2 (by simpa [Value.ownBlock] using c.symm)
  · rcases List.mem_append.1 hy with hy | hy
    · exact hent y hy
    · simp only [List.mem_cons, List.mem_nil_iff, or_false] at hy
      rcases hy with rfl | rfl
      · exact hv
      · exact hp
theorem At.keep {V w w' : World} {b o s1 : Nat} {x : Ex} {nv pv : Value} {A : Nat → Prop} (h : At V w b o x nv pv) (hb : b < V.heap.size ∨ b = s1) (hk : Keep A w w') (hA : ∀ c, A c → V.heap.size ≤ c ∧ c ≠ s1) : At V w' b o x nv pv := by
  have hl : b < w.heap.size := World.block_lt_of_cell? _ _ ((h.cell 0 (by omega)).trans (rfl : _ = some (Value.int .i64 x.kind)))
  have hh := hk.block b hl (fun c => by
    have := hA b c
    rcases hb with e | e
    · omega
    · exact this.2 e)
  exact ⟨fun j hj => (World.cell?_of_block (a := ⟨b, o + j, none⟩) hh).trans (h.cell j hj), h.is⟩
set_option maxHeartbeats 4000000 in
theorem next_any {V : World} {s1 tb : Nat} {v : Value} {r : List (List Ex)} (w : World) (h : Trail V s1 tb v r w) (hr : r.length ≤ 1000000000) :
    Calls Tryz.prog 87 #[.pointer (some ⟨tb, 0, none⟩)] w fun e w' => ∃ v' r', NextOk V s1 tb r e r' w' ∧ Trail V s1 tb v' r' w' ∧ (∀ c, v'.ownBlock = some c → v.ownBlock = some c ∨ w.heap.size ≤ c) ∧ Keep (Act tb v) w w' := by
  obtain ⟨i0, hi0, hz0, hz1, hz2⟩ := info_parts infoR
  have HI := hid hi0
  have H := hid h
  clear h hi0
  go_enter Tryz.func87, Tryz.ntmps87
  go_wp2_with fail
  go_loopg [3] r.length (fun gk _ X => ∃ v1 r1, Hid (Trail V s1 tb v1 r1 X) ∧ r1.length = gk ∧ gk ≤ 1000000000 ∧ Hid (pop r1 = pop r ∧ v1.ownBlock = v.ownBlock) ∧ Hid (Keep (Act tb v) w X))
  case atStart => exact ⟨v, r, H, rfl, hr, hid ⟨rfl, rfl⟩, hid (Keep.refl _ _)⟩
  case round =>
    rename World => X
    obtain ⟨v1, r1, HT, hgk, hg, HP, HK⟩ := hrel
    obtain ⟨st, h1, h2, h3⟩ := HT.out.has
    have hl : st.length = r1.length := by have := congrArg List.length h1; simpa using this
    have olen := own_len (P := Tryz.prog) h2 134 3 undR
    have c0 : X.cell? ⟨tb, 0, none⟩ = some v1 := by rw [Lib.cell_of_heap HT.out.cur]; rfl
    have f0 : X.frozen? ⟨tb, 0, none⟩ = false := Lib.frozen_of_heap HT.out.cur 0
    rw [hl] at olen
    cases r1 with
    | nil =>
      have HE := hid HP.out
      clear h1 h2 h3 hl
      simp only [List.length_nil] at olen
      go_wp2
      go_ret
      exact ⟨v1, [], .inl ⟨HE.out.1.symm.trans rfl, rfl, rfl⟩, HT.out, fun c hc => .inl (by rw [← HE.out.2]; exact hc), HK.out⟩
    | cons l rest =>
      obtain ⟨st0, p, hst⟩ : ∃ a x, st = a ++ [x] := (snoc_cases st).resolve_left (fun e => by rw [e] at hl; simp at hl)
      obtain ⟨l', pv⟩ := p
      have hrv : st0.map (·.1) = rest.reverse ∧ l' = l := by
        rw [hst, List.map_append, List.reverse_cons] at h1
        have := List.append_inj' h1 (by simp)
        exact ⟨this.1, by simpa using this.2⟩
      obtain ⟨hrev, rfl⟩ := hrv
      have hsl : st.length = st0.length + 1 := by rw [hst]; simp
      have hpx : Ent V s1 X pv l' := h3 (l', pv) (by rw [hst]; simp)
      obtain ⟨g, cap, hv1, hgb, hgl⟩ := h2.form (by omega)
      rw [hsl] at h2 hl hv1
      subst hv1
      simp only [List.length_cons] at olen hgk
      have hn : rest.length = st0.length := by simp at hl; omega
      rw [hn] at olen hgk
      subst hgk
      have hgt : g ≠ tb := fun e => HT.out.ne (by rw [e]; rfl)
      have htg : tb ≠ g := fun e => hgt e.symm
      have hsub' : wrap64 ((st0.length : Int) + 1 - 1) = (st0.length : Int) := by rw [IntWalk.wrap64_in _ ⟨by omega, by omega⟩]; omega
      have hcap : st0.length + 1 ≤ cap := by
        rcases h2.2 with ⟨e, _⟩ | ⟨g', cap', cur', e, _, _, e2, _⟩
        · cases e
        · injection e with _ _ e; omega
      have oat := fun Y => own_at (P := Tryz.prog) undR sizR g (st0.length + 1) cap st0.length (by omega) Y
      simp only [Nat.mul_one] at oat
      have hcell : X.cell? ⟨g, st0.length, none⟩ = some pv := by
        have := h2.cellAt st0.length (by omega)
        rw [this, hst]; simp
      have hfroz : X.frozen? ⟨g, st0.length, none⟩ = false := h2.frozenAt st0.length
      have plen := hpx.len (ty := 3)
      have H2 := hid h2
      have H3 := hid hpx
      have HN := hid hn
      have HREV := hid hrev
      have HENT := hid (show ∀ y ∈ st0, Ent V s1 X y.2 y.1 from fun y hy => h3 y (by rw [hst]; simp [hy]))
      have HSET := hid (show ∀ u, (st.map (·.2)).set st0.length u = st0.map (·.2) ++ [u] from fun u => by rw [hst]; simp)
      clear h1 h2 h3 hpx hst hl hsl hn hrev
      cases l' with
      | nil =>
        simp only [List.length_nil] at plen
        have HT2 := hid (HT.out.cut (by rw [HN.out]))
        rw [HN.out] at HT2
        have HK2 := hid (HK.out.trans (Keep.set (A := Act tb v) X tb 0 (.slice (some ⟨g, 0, none⟩) st0.length cap) (.inl rfl)) (fun _ _ c => c))
        clear hfroz
        have ocut := fun Y => cut_run (P := Tryz.prog) undR sizR g (st0.length + 1) cap st0.length (by omega) (by omega) Y
        go_wp2
        go_roundg st0.length
        case measure => omega
        case rel => exact ⟨.slice (some ⟨g, 0, none⟩) st0.length cap, rest, HT2, HN.out, by omega, hid ⟨HP.out.1, HP.out.2⟩, HK2⟩
      | cons x xs =>
        obtain ⟨v', b, o, nv, pv2, srun', ix', hcl, his, hloc, hxs⟩ := H3.out.cons
        obtain ⟨a1, n1, k1, rfl⟩ := hxs.form
        obtain ⟨a2, n2, k2, rfl⟩ := his.parts.2.form
        have c3 : X.cell? ⟨b, o + 3, none⟩ = some (.slice a2 n2 k2) := (hcl 3 (by omega)).trans rfl
        have hblt : b < X.heap.size := World.block_lt_of_cell? _ _ c3
        have hlow : V.heap.size ≤ tb := HT.out.low
        have hgow : V.heap.size ≤ g := (HT.out.own (b := g) rfl).1
        have hact := fun c => HT.out.act (b := c)
        have hbg : b ≠ g := by
          have := hact g (.inr rfl)
          omega
        have hbt : b ≠ tb := by
          have := hact tb (.inl rfl)
          omega
        have hsg : s1 ≠ g := fun e => HT.out.top.2.2 (.inr (by rw [e]; rfl))
        have hst1 : s1 ≠ tb := fun e => HT.out.top.2.2 (.inl e)
        have HAT := hid (show At V X b o x nv (.slice a2 n2 k2) from ⟨hcl, his⟩)
        have HLOC := hid hloc
        have HXS := hid hxs
        clear hcl his hloc hxs hact
        simp only [List.length_cons] at plen
        obtain ⟨gb, og1, og2, og3, og4, og5, og6⟩ := owns_at (P := Tryz.prog) H2.out st0.length (by omega) 134 undR sizR
        obtain rfl : g = gb := by have := (og1 .i64 X).symm.trans (oat X); simpa using this.symm
        have HO5 := hid (og6 (.slice a1 n1 k1))
        clear og1 og2 og3 og4 og5 og6
        go_wp2
        go_region
        go_wp2
        have hh5 : ∀ k, k ≠ g → (X.setCell ⟨g, st0.length, none⟩ (.slice a1 n1 k1)).drew.heap[k]? = X.heap[k]? := fun k hk => Below.heap_setCell X ⟨g, st0.length, none⟩ _ k hk
        have hs5 : (X.setCell ⟨g, st0.length, none⟩ (.slice a1 n1 k1)).drew.heap.size = X.heap.size := by simp [World.setCell, World.drew]
        have HK5 := hid (show Keep (Act tb v) w (X.setCell ⟨g, st0.length, none⟩ (.slice a1 n1 k1)).drew from (HK.out.trans (Keep.set (A := Act tb v) X g st0.length (.slice a1 n1 k1) (.inr (by rw [← HP.out.2]; rfl))) (fun _ _ c => c)).drew 1)
        have HKX5 := hid (show Keep (Act tb (.slice (some ⟨g, 0, none⟩) (st0.length + 1) cap)) X (X.setCell ⟨g, st0.length, none⟩ (.slice a1 n1 k1)).drew from (Keep.set X g st0.length (.slice a1 n1 k1) (.inr rfl)).drew 1)
        have HO5' := hid (show (X.setCell ⟨g, st0.length, none⟩ (.slice a1 n1 k1)).drew.ownsRow V.heap.size 23 1 (.slice (some ⟨g, 0, none⟩) (st0.length + 1) cap) (st0.length + 1) (st0.map (·.2) ++ [.slice a1 n1 k1]) from by rw [← HSET.out]; exact HO5.out)
        have b5 := World.cell?_of_block (a := ⟨b, o + 3, none⟩) (hh5 b hbg)
        have b6 := World.cell?_of_block (a := ⟨tb, 0, none⟩) (hh5 tb htg)
        have b7 := World.frozen?_of_block (a := ⟨tb, 0, none⟩) (hh5 tb htg)
        have b8 := (hh5 tb htg).trans HT.out.cur
        rw [c3] at b5
        rw [c0] at b6
        rw [f0] at b7
        clear HO5 c3 c0 f0 hfroz hcell oat hh5
        generalize (X.setCell ⟨g, st0.length, none⟩ (.slice a1 n1 k1)).drew = Y at *
        have HB8 := hid b8
        have B6 := ba (b0 Y) (.cells #[.slice a2 n2 k2] 23)
        have HO6 := hid (show (Y.alloc (.cells #[.slice a2 n2 k2] 23)).drew.ownsRow V.heap.size 23 1 (.slice (some ⟨g, 0, none⟩) (st0.length + 1) cap) (st0.length + 1) (st0.map (·.2) ++ [.slice a1 n1 k1]) from (owns_later HO5'.out B6 : (Y.alloc (.cells #[.slice a2 n2 k2] 23)).ownsRow V.heap.size 23 1 (.slice (some ⟨g, 0, none⟩) (st0.length + 1) cap) (st0.length + 1) (st0.map (·.2) ++ [.slice a1 n1 k1])))
        have HB6 := hid B6
        have htY : tb < Y.heap.size := lt_of_some b8
        have hbY : b < Y.heap.size := by omega
        have hgY : g < Y.heap.size := by omega
        clear b8 B6 hs5
        go_region_law (
          refine step_append_lies _ rfl (.tmp 39) (.tmp 44) 134 rfl V.heap.size 23 i0 _ 1 24 undR HI.out hz0 hz1 hz2 rfl (by decide) (.slice (some ⟨g, 0, none⟩) (st0.length + 1) cap) (st0.length + 1) (st0.map (·.2) ++ [.slice a1 n1 k1]) (by simp [Act.eval, Act.put]) HO6.out ⟨Y.heap.size, 0, none⟩ 1 1 [.slice a2 n2 k2] (by simp [Act.eval, Act.put]) rfl ?c1 (by simp [Value.oneCell']) (by decide) ?c2 ?c3 ?c4 _ rfl ?_
          case c1 => exact new_cells _ _ _ _ (by simp)
          case c2 => unfold maxLen; omega
          case c3 => omega
          case c4 => simp [World.drew]; omega
          intro g2 cap2 w9 hown9 hg9 hgg9 hgl9
          have hgr : (Y.alloc (.cells #[.slice a2 n2 k2] 23)).grownBy w9 (some g) := ⟨hg9.os, hg9.tape, hg9.output, hg9.size, hg9.block⟩
          have hh9 : w9.heap[tb]? = Y.heap[tb]? := (hgr.block tb (by simp; omega) (fun e => by injection e with e; exact htg e)).trans (HB6.out.block tb htY)
          have b9 := World.cell?_of_block (a := ⟨tb, 0, none⟩) hh9
          have q9 := World.frozen?_of_block (a := ⟨tb, 0, none⟩) hh9
          rw [b6] at b9
          rw [b7] at q9
          have hgt2 : Hid (g2 ≠ tb ∧ (g2 = g ∨ w.heap.size ≤ g2) ∧ s1 ≠ g2) := hid (by
            rcases hgg9 with e | e
            · have : g = g2 := by simpa [Value.ownBlock] using e
              subst this; exact ⟨hgt, .inl rfl, hsg⟩
            · simp at e
              have := HK5.out.size
              have := HT.out.top.2.1
              have := HKX5.out.size
              exact ⟨by omega, .inr (by omega), by omega⟩)
          have HC9 := hid (hh9.trans HB8.out)
          have HK9 := hid ((HK5.out.trans (Keep.alloc (A := Act tb v) Y (.cells #[.slice a2 n2 k2] 23)) (fun _ _ c => c)).trans (Keep.of_grown (A := Act tb v) hgr (fun k e => .inr (by rw [← HP.out.2]; injection e with e; rw [← e]; rfl))) (fun _ _ c => c))
          have HKX9 := hid ((HKX5.out.trans (Keep.alloc (A := Act tb (.slice (some ⟨g, 0, none⟩) (st0.length + 1) cap)) Y (.cells #[.slice a2 n2 k2] 23)) (fun _ _ c => c)).trans (Keep.of_grown (A := Act tb (.slice (some ⟨g, 0, none⟩) (st0.length + 1) cap)) hgr (fun k e => .inr (by injection e with e; rw [← e]; rfl))) (fun _ _ c => c))
          have HO9 := hid (show w9.ownsRow V.heap.size 23 1 (.slice (some ⟨g2, 0, none⟩) (st0.length + 1 + 1) cap2) (st0.length + 1 + 1) (st0.map (·.2) ++ [.slice a1 n1 k1] ++ [.slice a2 n2 k2]) from hown9)
          clear hown9 hg9 hgg9 hgr hh9)
        all_goals go_wp2
        all_goals go_ret
        all_goals have HKE := hid (HK9.out.trans (Keep.set (A := Act tb v) w9 tb 0 (.slice (some ⟨g2, 0, none⟩) (st0.length + 1 + 1) cap2) (.inl rfl)) (fun _ _ c => c))
        all_goals have HKX := hid (HKX9.out.trans (Keep.set (A := Act tb (.slice (some ⟨g, 0, none⟩) (st0.length + 1) cap)) w9 tb 0 (.slice (some ⟨g2, 0, none⟩) (st0.length + 1 + 1) cap2) (.inl rfl)) (fun _ _ c => c))
        all_goals have HA := hid (fun c (hc : Act tb (.slice (some ⟨g, 0, none⟩) (st0.length + 1) cap) c) => (⟨(HT.out.act hc).1, (HT.out.act hc).2.2⟩ : V.heap.size ≤ c ∧ c ≠ s1))
        all_goals exact ⟨.slice (some ⟨g2, 0, none⟩) (st0.length + 1 + 1) cap2, x.l :: xs :: rest, .inr ⟨rest, x, xs, b, o, nv, _, HP.out.1.symm.trans rfl, rfl, rfl, HAT.out.keep HLOC.out HKX.out HA.out, HLOC.out⟩,
          Trail.push (HKE.out.below H.out.old (fun k hk => (H.out.act hk).1)) hlow ⟨HT.out.top.1, Nat.lt_of_lt_of_le HT.out.top.2.1 HKX.out.size, hst1, hgt2.out.2.2⟩ hgt2.out.1 HREV.out (fun y hy => (HENT.out y hy).keep HKX.out HA.out) (HXS.out.keep HKX.out HA.out) (Ent.of HAT.out.is.parts.2 (HKE.out.below H.out.old (fun k hk => (H.out.act hk).1))) (own_same HO9.out (fun k hk => Below.heap_setCell w9 ⟨tb, 0, none⟩ _ k (fun e => hgt2.out.1 ((show g2 = k by simpa [Value.ownBlock] using hk).trans e)))) (by simp [World.setCell, Array.getElem?_modify, HC9.out]),
          (fun k hk => by
            have e1 : g2 = k := by simpa [Value.ownBlock] using hk
            rcases hgt2.out.2.1 with e | e
            · exact .inl (by rw [← HP.out.2, ← e1, e]; rfl)
            · exact .inr (by omega)), HKE.out⟩
end Go.Proofs.YtkmdclfkmmlloaaGreatDoor.Xp
