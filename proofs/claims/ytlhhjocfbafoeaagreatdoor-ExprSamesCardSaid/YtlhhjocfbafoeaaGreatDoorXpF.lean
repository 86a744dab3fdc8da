/- Layer 10: contracts of Scoped and Free. -/
import Derived.Test.YtlhhjocfbafoeaaGreatDoorXpE
import Derived.Test.YtlhhjocfbafoeaaGreatDoorIterShelf
set_option linter.unusedVariables false
set_option linter.unusedSimpArgs false
namespace Go.Proofs.YtlhhjocfbafoeaaGreatDoor.Xp
open Go Go.Proofs.YtlhhjocfbafoeaaGreatDoor Go.Proofs.YtlhhjocfbafoeaaGreatDoor.Utf Go.Proofs.YtlhhjocfbafoeaaGreatDoor.Names Go.Proofs.YtlhhjocfbafoeaaGreatDoor.Sc Go.RowKit Go.Shelf Go.Maps
set_option maxRecDepth 100000

attribute [local go_sem] run_store_fn run_store_nofn
/-- What Scoped tells. -/
def scopedV (N : List Nam) (e : Ex) : Int := if 200 < e.depth then 9 else (rd N 4096 13 e [] []).1
/-- What Free tells. -/
def freeV (e : Ex) : List Nam := if 200 < e.depth then [] else norm (rd [] 9223372036854775807 0 e [] []).2
theorem lack13 (W0 : World) (rb mb : Nat) : LackOk W0 rb mb (fun _ => False) 34 #[] 13 (fun _ _ => True) where
  enters := fun args w => enters_of Tryz.func34 (by kernel_rfl) rfl args w
  call := fun w F x _ _ hx => by
    show Calls Tryz.prog 34 #[.string (text x)] w _
    go_enter Tryz.func34, Tryz.ntmps34
    go_wp2
    go_ret
    exact ⟨rfl, trivial, Keep.refl _ _⟩
  stay := fun _ _ _ _ _ => trivial
  apart := fun _ h => h.elim
theorem made_reader {w1 : World} {p : Option Addr} {N : List Nam} (most : Int) (f : Value) (hs : ScAt w1 p N) :
    Rdr w1 (w1.heap.size + 1) p N w1.heap.size most f [] 0 ((w1.alloc (.map #[] 0)).alloc (.cells #[.pointer p, .map (some w1.heap.size), .int .i64 most, f] 55)) := by
  have hB := ba (ba (b0 w1) (.map #[] 0)) (.cells #[.pointer p, .map (some w1.heap.size), .int .i64 most, f] 55)
  have hk := heap_alloc_new (w1.alloc (.map #[] 0)) (.cells #[.pointer p, .map (some w1.heap.size), .int .i64 most, f] 55)
  rw [World.size_alloc] at hk
  exact ⟨hB, ⟨Nat.le_refl _, by omega⟩, hk, hs, (MetAt.made w1).keep (A := fun _ => False) (Keep.alloc _ _) (fun c => c), by simp⟩
set_option maxHeartbeats 4000000 in
theorem Scoped_any (e : Ex) (ao : Option Addr) (an ac : Nat) (po : Option Addr) (pn pc : Nat) (p : Option Addr) (N : List Nam) (w : World) (hs : ScAt w p N) (h : IsE w e (.slice ao an ac) (.slice po pn pc)) (hm : e.mass ≤ 2000000) :
    Calls Tryz.prog 14 #[exV e (.slice ao an ac) (.slice po pn pc), .pointer p] w fun r w' => r = .returned (.int .i64 (scopedV N e)) ∧ Below w.heap.size w w' := by
  have hsz := size_mass e
  have B1 := ba (b0 w) (.cells #[.int .i64 e.kind, .string (text e.s), .slice ao an ac, .slice po pn pc] 25)
  have TD := hid (tooDeep_any e ao an ac po pn pc _ (boxed h) (by omega))
  have HX := hid (boxE w e ao an ac po pn pc h)
  have HS := hid (hs.later B1)
  have HM := hid hm
  have HSV := hid (show scopedV N e = if 200 < e.depth then 9 else (rd N 4096 13 e [] []).1 from rfl)
  unfold exV at TD ⊢
  obtain ⟨V, hV⟩ : ∃ V, w.alloc (.cells #[.int .i64 e.kind, .string (text e.s), .slice ao an ac, .slice po pn pc] 25) = V := ⟨_, rfl⟩
  rw [hV] at B1 HX HS
  have HB := hid B1
  have HV := hid hV
  clear h B1 hs
  by_cases hd : 200 < e.depth
  · have HC9 := hid (HSV.out.trans (if_pos hd))
    rw [decide_eq_true hd] at TD
    clear hd hV hm hsz
    have hmm := @run_makeMap Tryz.prog
    go_enter Tryz.func14, Tryz.ntmps14
    go_wp2_with fail
    refine TD.out.mono ?_
    rintro r w1 ⟨rfl, hb1⟩
    have HB1 := hid (show Below w.heap.size w w1 from by rw [HV.out] at hb1; exact HB.out.trans (hb1.mono HB.out.size))
    clear hb1
    go_wp2
    go_ret
    rw [HC9.out]
    exact ⟨rfl, HB1.out⟩
  · have HC0 := hid (HSV.out.trans (if_neg hd))
    rw [decide_eq_false hd] at TD
    have HBD := hid (show e.mass ≤ 2000000 ∧ e.size ≤ 2000000 from ⟨hm, by omega⟩)
    clear hd hV hm hsz
    have hmm := @run_makeMap Tryz.prog
    go_enter Tryz.func14, Tryz.ntmps14
    go_wp2_with fail
    refine TD.out.mono ?_
    rintro r w1 ⟨rfl, hb1⟩
    rw [HV.out] at hb1
    have HB1 := hid (HB.out.trans (hb1.mono HB.out.size))
    have HX1 := hid (HX.out.later hb1)
    have HR := hid (made_reader 4096 (.func (.func 34) #[] #[]) (HS.out.later hb1))
    have RD := hid (read_any (lack13 w1 (w1.heap.size + 1) w1.heap.size) (by have := HS.out.few; omega) e.size e (Nat.le_refl _) [] [] 0 _ w.heap.size 0 _ _ HR.out trivial HX1.out HBD.out.1 (by have := HBD.out; omega) (by have := HBD.out; simp; omega) (by have := HBD.out; simp; omega))
    have HB2 := hid (ba (ba (b0 w1) (.map #[] 0)) (.cells #[.pointer p, .map (some w1.heap.size), .int .i64 4096, .func (.func 34) #[] #[]] 55))
    clear hb1
    go_wp2_with fail
    refine RD.out.mono ?_
    rintro r2 w2 ⟨rfl, _, hk, _⟩
    have HK := hid hk
    clear hk
    go_wp2
    go_ret
    rw [HC0.out]
    exact ⟨rfl, HB1.out.trans ((HK.out.below HB2.out (fun b hb => hb.elim (fun e => by omega) (fun f => f.elim))).mono HB1.out.size)⟩
def isStr : Lit → Bool
  | .string _ => true
  | _ => false
/-- All keys are texts. -/
def StrD (D : DataW Unit) : Prop := ∃ es, D = .map es ∧ es.any (fun p => !isStr p.1) = false
theorem StrD.put {D : DataW Unit} (h : StrD D) (x : Nam) (d : DataW Unit) : StrD (D.put (.string x) d) := by
  obtain ⟨es, rfl, h1⟩ := h
  refine ⟨_, rfl, ?_⟩
  rw [Maps.any_insert, Bool.or_eq_false_iff]
  refine ⟨rfl, ?_⟩
  rw [List.any_eq_false] at h1 ⊢
  intro p hp
  exact h1 p (List.mem_filter.1 hp).1
/-- The block holds these names, and texts alone. -/
def SetS (w : World) (b : Nat) (F : List Nam) (n : Nat) : Prop :=
  ∃ D : DataW Unit, w.ownsMap Tryz.prog 9 (plainElem (H := Unit) Tryz.prog 4) b n D ∧ StrD D ∧ ∀ x : Nam, Maps.has D (.string x) = decide (x ∈ F)
theorem SetS.keep {w w' : World} {b n : Nat} {F : List Nam} {A : Nat → Prop} (h : SetS w b F n) (hk : Keep A w w') (hb : ¬ A b) : SetS w' b F n := by
  obtain ⟨D, ⟨es, clock, h1, r⟩, h2⟩ := h
  exact ⟨D, ⟨es, clock, hk.cell h1 hb, r⟩, h2⟩
theorem SetS.made (w : World) : SetS (w.alloc (.map #[] 0)) w.heap.size [] 0 := by
  have := World.ownsMap_made (H := Unit) w Tryz.prog 9 (plainElem (H := Unit) Tryz.prog 4)
  exact ⟨_, this, ⟨[], rfl, rfl⟩, fun x => rfl⟩
theorem SetS.plus {w : World} {b n : Nat} {F : List Nam} (h : SetS w b F n) (hn : n < 281474976710656) (x : Nam) (hx : x.length ≤ 2000000) :
    ∃ w', (Instr.mapUpdate 59 (.map (some b)) (.string (text x)) (.bool true)).run Tryz.prog w = .ok () w' ∧ SetS w' b (x :: F) (n + 1) ∧ w.grownBy w' (some b) := by
  obtain ⟨D, h1, h2, h3⟩ := h
  obtain ⟨w1, hrun, own1, hg1⟩ := h1.update (Maps.string_keyed undStr) undSet (by unfold maxLen; omega) (key_of x hx) (plainElem_bool (H := Unit) undBool true)
  refine ⟨w1, hrun, ⟨_, own1, h2.put x _, fun y => ?_⟩, hg1⟩
  by_cases e : y = x
  · subst e
    rw [Maps.has_put_same h1.isMap (isKey y)]
    simp
  · rw [Maps.has_put_other (str_ne e), h3 y]
    simp [e]
/-- What is lacking is noted in a map. -/
def NoteAt (fb fm : Nat) (X : World) (F : List Nam) : Prop := X.heap[fb]? = some (.cells #[.map (some fm)] 59 (0, 0)) ∧ SetS X fm F F.length
theorem lack0 (W0 : World) (rb mb fb fm : Nat) (h0 : W0.heap.size ≤ fm ∧ fm ≠ rb ∧ fm ≠ mb) (h1 : fb ≠ mb) (h2 : fb ≠ fm) : LackOk W0 rb mb (· = fm) 37 #[.pointer (some ⟨fb, 0, none⟩)] 0 (NoteAt fb fm) where
  enters := fun args w => enters_of Tryz.func37 (by kernel_rfl) rfl args w
  call := fun w F x hS hF hx => by
    show Calls Tryz.prog 37 #[.string (text x), .pointer (some ⟨fb, 0, none⟩)] w _
    have c0 : w.cell? ⟨fb, 0, none⟩ = some (.map (some fm)) := by rw [Lib.cell_of_heap hS.1]; rfl
    obtain ⟨w2, hup, hs2, hg2⟩ := hS.2.plus (by omega) x hx
    have HS := hid hS
    have HS2 := hid hs2
    have HG := hid hg2
    clear hS hs2 hg2
    go_enter Tryz.func37, Tryz.ntmps37
    go_wp2
    go_ret
    have hk : Keep (· = fm) w w2 := Keep.of_grown HG.out (fun b e => by injection e with e; exact e.symm)
    exact ⟨rfl, ⟨hk.cell HS.out.1 h2, HS2.out⟩, hk⟩
  stay := fun w w' F hS hk => ⟨hk.cell hS.1 h1, hS.2.keep hk h0.2.2⟩
  apart := fun b hb => by rw [hb]; exact h0
/-- The keys of a set of names, sorted. -/
theorem keys_norm {D : DataW Unit} {F ss : List Nam} (ht : Maps.Tidy D) (hstr : StrD D) (hD : ∀ x : Nam, Maps.has D (.string x) = decide (x ∈ F)) (hp : ss.Perm (strKeys D)) : ss.mergeSort (fun x y => decide (x ≤ y)) = norm F := by
  obtain ⟨es, rfl, hn⟩ := ht
  have hs : ∀ p ∈ es, ∃ x, p.1 = .string x := by
    obtain ⟨es', e1, e2⟩ := hstr
    injection e1 with e1
    subst e1
    intro p hp
    have := List.any_eq_false.1 e2 p hp
    cases hq : p.1 with
    | string x => exact ⟨x, rfl⟩
    | _ => rw [hq] at this; exact absurd rfl this
  have hmem : ∀ x, x ∈ strKeys (.map es : DataW Unit) ↔ x ∈ F := by
    intro x
    have h1 := hD x
    rw [Maps.has_eq, Bool.eq_iff_iff, List.any_eq_true, decide_eq_true_iff] at h1
    rw [← h1]
    simp only [strKeys, List.mem_map]
    constructor
    · rintro ⟨p, hp, rfl⟩
      obtain ⟨y, hy⟩ := hs p hp
      exact ⟨p, hp, by rw [hy]; simp [strOf, Lit.sameKey]⟩
    · rintro ⟨p, hp, h⟩
      obtain ⟨y, hy⟩ := hs p hp
      refine ⟨p, hp, ?_⟩
      rw [hy] at h ⊢
      simpa [strOf, Lit.sameKey] using h
  have hnd : (strKeys (.map es : DataW Unit)).Nodup := by
    simp only [strKeys]
    refine List.pairwise_map.2 (hn.imp_of_mem fun {p q} hp hq h => ?_)
    obtain ⟨y, hy⟩ := hs p hp
    obtain ⟨z, hz⟩ := hs q hq
    rw [hy, hz] at h ⊢
    simpa [strOf] using h
  have hnd2 : (srt ss).Nodup := ((srt_perm ss).nodup_iff).2 ((hp.nodup_iff).2 hnd)
  refine Rise.unique ?_ (norm_facts F).1 fun z => ?_
  · have h1 := srt_rise ss
    refine List.Pairwise.imp₂ (fun a b h2 h3 => ?_) h1 hnd2
    rcases less_total h3 with h | h
    · exact h
    · rw [h] at h2; cases h2
  · rw [(norm_facts F).2.1, ← hmem, ← hp.mem_iff]
    exact (srt_perm ss).mem_iff
set_option maxHeartbeats 8000000 in
theorem Free_any (e : Ex) (ao : Option Addr) (an ac : Nat) (po : Option Addr) (pn pc : Nat) (w : World) (h : IsE w e (.slice ao an ac) (.slice po pn pc)) (hm : e.mass ≤ 2000000) :
    Calls Tryz.prog 17 #[exV e (.slice ao an ac) (.slice po pn pc)] w fun r w' => ∃ v, r = .returned v ∧ Strs w' v (freeV e) ∧ Below w.heap.size w w' := by
  have hsz := size_mass e
  have B1 := ba (b0 w) (.cells #[.int .i64 e.kind, .string (text e.s), .slice ao an ac, .slice po pn pc] 25)
  have TD := hid (tooDeep_any e ao an ac po pn pc _ (boxed h) (by omega))
  have HX := hid (boxE w e ao an ac po pn pc h)
  have HFV := hid (show freeV e = if 200 < e.depth then [] else norm (rd [] 9223372036854775807 0 e [] []).2 from rfl)
  unfold exV at TD ⊢
  obtain ⟨V, hV⟩ : ∃ V, w.alloc (.cells #[.int .i64 e.kind, .string (text e.s), .slice ao an ac, .slice po pn pc] 25) = V := ⟨_, rfl⟩
  rw [hV] at B1 HX
  have HB := hid B1
  have HV := hid hV
  clear h B1
  by_cases hd : 200 < e.depth
  · have HC9 := hid (HFV.out.trans (if_pos hd))
    rw [decide_eq_true hd] at TD
    clear hd hV hm hsz
    have hmm := @run_makeMap Tryz.prog
    go_enter Tryz.func17, Tryz.ntmps17
    go_wp2_with fail
    refine TD.out.mono ?_
    rintro r w1 ⟨rfl, hb1⟩
    have HB1 := hid (show Below w.heap.size w w1 from by rw [HV.out] at hb1; exact HB.out.trans (hb1.mono HB.out.size))
    clear hb1
    go_wp2
    go_ret
    rw [HC9.out]
    exact ⟨_, rfl, Row.nil 1 _, HB1.out⟩
  · have HC0 := hid (HFV.out.trans (if_neg hd))
    rw [decide_eq_false hd] at TD
    have HBD := hid (show e.mass ≤ 2000000 ∧ e.size ≤ 2000000 from ⟨hm, by omega⟩)
    clear hd hV hm hsz
    have hmm := @run_makeMap Tryz.prog
    go_enter Tryz.func17, Tryz.ntmps17
    go_wp2_with fail
    refine TD.out.mono ?_
    rintro r w1 ⟨rfl, hb1⟩
    rw [HV.out] at hb1
    have HB1 := hid (HB.out.trans (hb1.mono HB.out.size))
    have HX1 := hid (HX.out.later hb1)
    clear hb1
    obtain ⟨w2, hw2⟩ : ∃ w2, (w1.alloc (.map #[] 0)).alloc (.cells #[.map (some w1.heap.size)] 59) = w2 := ⟨_, rfl⟩
    have z2 : w2.heap.size = w1.heap.size + 2 := by rw [← hw2]; simp
    have B12 : Below w1.heap.size w1 w2 := by rw [← hw2]; exact ba (ba (b0 w1) _) _
    have hk2 : w2.heap[w1.heap.size + 1]? = some (.cells #[.map (some w1.heap.size)] 59 (0, 0)) := by
      have := heap_alloc_new (w1.alloc (.map #[] 0)) (.cells #[.map (some w1.heap.size)] 59)
      rw [World.size_alloc] at this
      rw [← hw2]; exact this
    have hs2 : SetS w2 w1.heap.size [] 0 := by rw [← hw2]; exact (SetS.made w1).keep (A := fun _ => False) (Keep.alloc _ _) (fun c => c)
    have hR := made_reader (w1 := w2) (p := none) (N := []) 9223372036854775807 (.func (.func 37) #[] #[.pointer (some ⟨w1.heap.size + 1, 0, none⟩)]) (ScAt.none w2)
    have B23 := ba (ba (b0 w2) (.map #[] 0)) (.cells #[.pointer none, .map (some w2.heap.size), .int .i64 9223372036854775807, .func (.func 37) #[] #[.pointer (some ⟨w1.heap.size + 1, 0, none⟩)]] 55)
    have hR1 : Rdr w1 (w2.heap.size + 1) none [] w2.heap.size 9223372036854775807 (.func (.func 37) #[] #[.pointer (some ⟨w1.heap.size + 1, 0, none⟩)]) [] 0 _ :=
      ⟨B12.trans (hR.old.mono B12.size), ⟨by omega, by omega⟩, hR.cur, ScAt.none w1, hR.met, hR.off⟩
    have hN : NoteAt (w1.heap.size + 1) w1.heap.size ((w2.alloc (.map #[] 0)).alloc (.cells #[.pointer none, .map (some w2.heap.size), .int .i64 9223372036854775807, .func (.func 37) #[] #[.pointer (some ⟨w1.heap.size + 1, 0, none⟩)]] 55)) [] :=
      ⟨(B23.block _ (by omega)).trans hk2, hs2.keep (A := fun _ => False) (Keep.of_below B23) (fun c => c)⟩
    have RD := hid (read_any (lack0 w1 (w2.heap.size + 1) w2.heap.size (w1.heap.size + 1) w1.heap.size ⟨Nat.le_refl _, by omega, by omega⟩ (by omega) (by omega)) (by simp) e.size e (Nat.le_refl _) [] [] 0 _ w.heap.size 0 _ _ hR1 hN HX1.out HBD.out.1 (by have := HBD.out; omega) (by have := HBD.out; simp; omega) (by have := HBD.out; simp; omega))
    have HBB := hid (show Below w1.heap.size w1 _ from B12.trans (B23.mono B12.size))
    have HZ2 := hid z2
    have HRL := hid (rd_len [] 9223372036854775807 0 e [] [])
    obtain ⟨re, hre⟩ : ∃ re, rd [] 9223372036854775807 0 e [] [] = re := ⟨_, rfl⟩
    rw [hre] at RD HC0 HRL
    rw [z2] at RD HBB
    rw [← hw2] at RD HBB
    clear hw2 z2 B12 hk2 hs2 hR B23 hR1 hN hre
    go_wp2_with fail
    refine RD.out.mono ?_
    rintro r2 w3 ⟨rfl, hn, hk, _⟩
    have HN := hid hn
    have HB3 := hid (show Below w1.heap.size w1 w3 from hk.below HBB.out (fun b hb => by have := HZ2.out; rcases hb with hb | hb <;> omega))
    have c3 : w3.cell? ⟨w1.heap.size + 1, 0, none⟩ = some (.map (some w1.heap.size)) := by rw [Lib.cell_of_heap hn.1]; rfl
    clear hn hk
    obtain ⟨D, hown, hstr, hD⟩ := HN.out.2
    have hsl := hown.size_le
    have hlen : re.2.length ≤ 2000000 := by have h1 := HRL.out; have h2 := HBD.out; simp only [List.length_nil] at h1; omega
    have MK := hid (callsIn_wide.1 (Tryz.maps_Keys_39 (some w1.heap.size) w3))
    have SK := hid (callsIn_wide.1 (Tryz.slices_Sorted_keys_38_39 w1.heap.size _ D _ w3 hown (by unfold maxLen; omega) (by omega)))
    have HKN := hid (fun (ss : List Nam) (hp : ss.Perm (strKeys D)) => keys_norm (F := re.2) (hown.tidy (Maps.string_keyed undStr)) hstr hD hp)
    have HSK := hid (fun (ss : List Nam) (hp : ss.Perm (strKeys D)) => (show ss.length ≤ 2000000 from by
      have h1 := hp.length_eq
      obtain ⟨es, hes, _⟩ := hstr
      rw [hes] at h1 hsl
      simp only [strKeys, List.length_map] at h1
      simp only [Maps.size] at hsl
      omega))
    have HB4 := hid (HB1.out.trans (HB3.out.mono HB1.out.size))
    clear hown hstr hD hsl hlen
    go_wp2_with fail
    refine MK.out.mono ?_
    rintro r4 w4 ⟨rfl, rfl⟩
    go_wp2_with fail
    refine SK.out.mono ?_
    rintro r5 w5 ⟨v, ss, rfl, hp, hrow, _, hb5⟩
    have HSTR := hid (show Strs w5 v (norm re.2) from by
      have h1 := HKN.out ss hp
      have h2 : ss.length = (norm re.2).length := by rw [← h1]; exact (srt_length ss).symm
      have h3 := HSK.out ss hp
      rw [h1, h2] at hrow
      exact Strs.ofOwns (l := norm re.2) hrow (by omega))
    have HB5 := hid (HB4.out.trans ((ba (b0 w3) (.cells #[.map (some w1.heap.size)] 59)).trans (hb5.mono (by simp)) |>.mono HB4.out.size))
    clear hp hrow hb5
    go_wp2
    go_ret
    rw [HC0.out]
    exact ⟨_, rfl, HSTR.out, HB5.out⟩
end Go.Proofs.YtlhhjocfbafoeaaGreatDoor.Xp
