/- Layer 9: contract of Names; the statements' own names and same. -/
import Derived.Test.YthggoohchjifnaaDoorScL
set_option linter.unusedVariables false
set_option linter.unusedSimpArgs false
namespace Go.Proofs.YthggoohchjifnaaDoor.Sc
open Go Go.Proofs.YthggoohchjifnaaDoor Go.Proofs.YthggoohchjifnaaDoor.Utf Go.Proofs.YthggoohchjifnaaDoor.Names Go.RowKit Go.Shelf
set_option maxRecDepth 100000

/-- The names of a scope, told outermost first, merged. -/
def told : List (List (List UInt8)) → List (List UInt8)
  | [] => []
  | l :: ls => mrg (told ls) l
theorem told_perm : ∀ ls : List (List (List UInt8)), (told ls).Perm ls.flatten
  | [] => by simp [told]
  | l :: ls => by
    rw [List.flatten_cons]
    exact (mrg_perm _ _).trans (((told_perm ls).append_right l).trans List.perm_append_comm)
theorem told_rise : ∀ {ls : List (List (List UInt8))}, (∀ l ∈ ls, Rise l) → ls.flatten.Nodup → Rise (told ls)
  | [], _, _ => by simp [told, Rise]
  | l :: ls, h, hn => by
    rw [List.flatten_cons] at hn
    have hn' := List.nodup_append.1 hn
    exact mrg_rise (told_rise (fun x hx => h x (List.mem_cons_of_mem _ hx)) hn'.2.1) (h l (by simp)) fun a ha hb => hn'.2.2 a hb a ((told_perm ls).mem_iff.1 ha) rfl

/-- What lies in D, or came since. -/
def Since (D : Nat → Prop) (w w' : World) : Nat → Prop := fun b => D b ∨ (w.heap.size ≤ b ∧ b < w'.heap.size)
set_option maxHeartbeats 4000000 in
theorem Names_any (D : Nat → Prop) : ∀ (ls : List (List (List UInt8))) (p : Option Addr) (w : World), IsSc D w p ls → (∀ b, D b → b < w.heap.size) →
    Calls Tryd.prog 31 #[.pointer p] w fun e w' => ∃ g lb c, e = .returned (.func (.func g) #[] lb) ∧ (∀ args w, (callFunc g args).run Tryd.prog w = .ok (.enter g args) w) ∧ TellsD Tryd.prog (Since D w w') c g lb encT (told ls) w' ∧ Below w.heap.size w w'
  | [], p, w, h, hD => by
    obtain rfl : p = none := h
    have T := hid (none_tells (Since D w w) w)
    go_enter Tryd.func31, Tryd.ntmps31
    go_wp2
    go_ret
    exact ⟨_, _, _, rfl, enters_of Tryd.func42 (by kernel_rfl) rfl, T.out, Below.refl _ _⟩
  | l :: ls, p, w, h, hD => by
    obtain ⟨b, po, v, rfl, hb, c0, c1, c2, hv, hn⟩ := h
    obtain ⟨a0, n0, k0, rfl⟩ := slice_form hv.1
    have IH := hid (Names_any D ls po w.drew (IsSc.same (w := w) (W := w.drew) (fun _ _ => rfl) hn) hD)
    have d0 : w.drew.cell? ⟨b, 0, none⟩ = some (.pointer po) := c0
    have d1 : w.drew.cell? ⟨b, 1, none⟩ = some (.slice a0 n0 k0) := c1
    have C1 := hid (fun W (h : Below w.heap.size w.drew W) => (h.cell (p := ⟨b, 1, none⟩) (hD b hb)).trans d1)
    have HV := hid hv
    have HD := hid hD
    have mixed : Tryd.prog.follows Departure.mixedOrders = true := by kernel_rfl
    clear hv hn c2 hb hD
    go_enter Tryd.func31, Tryd.ntmps31
    go_wp2
    go_region_with (first
      | (go_at_call 31; refine IH.out.mono ?_; rintro e w1 ⟨g, lb, c, rfl, eg, ht, hb1⟩; have d2 := C1.out w1 hb1; have HE := hid eg; have HT := hid ht; have HB1 := hid hb1; clear eg ht hb1)
      | (go_at_call 40; refine (both_any g lb a0 n0 k0 w1).mono ?_; rintro e w2 ⟨rfl, hw2⟩; have HW2 := hid hw2; clear hw2))
    all_goals go_wp2
    all_goals go_ret
    all_goals
      have hz : w2.heap.size = w1.heap.size + 2 := by rw [HW2.out]; simp
      have hb1 : Below w.heap.size w w1 := ⟨HB1.out.os, HB1.out.tape, HB1.out.output, HB1.out.size, HB1.out.block⟩
      have hz1 : w.heap.size ≤ w1.heap.size := hb1.size
      have hv1 : StrsD (Since D w.drew w1) w1 (.slice a0 n0 k0) l := (HV.out.same fun b hb => hb1.block b (HD.out b hb)).mono fun b hb => .inl hb
      have t2 := both_made HW2.out (fun b hb => by rcases hb with hb | hb; have := HD.out b hb; omega; exact hb.2) HE.out HT.out hv1
      refine ⟨_, _, _, rfl, enters_of Tryd.func65 (by kernel_rfl) rfl, tells_mono t2 (fun b hb => ?_) (fun _ _ => rfl), ?_⟩
      · rcases hb with (hb | ⟨h1, h2⟩) | hb | hb
        · exact .inl hb
        · exact .inr ⟨h1, by omega⟩
        · exact .inr (by omega)
        · exact .inr (by omega)
      · rw [HW2.out]
        exact (hb1.alloc hb1.size _).alloc (by have := hb1.size; simp; omega) _

attribute [local go_sem] Oper.semAt_some
set_option maxHeartbeats 4000000 in
theorem names_in (p : Option Addr) (ls : List (List (List UInt8))) (w : World) (hs : IsSc (· < w.heap.size) w p ls) (hl : ls.flatten.length ≤ 4096) :
    CallsIn Fence.wide 9 Tryd.prog 16 #[.pointer p] w fun e w' => ∃ v, e = .returned v ∧ OwnS w.heap.size w' v (told ls) ∧ Below w.heap.size w w' := by
  obtain ⟨i0, hi, hz0, hz1, hz2⟩ := info_parts infoT
  have underS := Tryd.underlying22
  have htl : (told ls).length ≤ 4096 := by rw [(told_perm ls).length_eq]; exact hl
  cases ls with
  | nil =>
    obtain rfl : p = none := hs
    refine callsIn_of_wp Tryd.func16 rfl trivial ?_ rfl
    simp only [Tryd.ntmps16, List.size_toArray, List.length_cons, List.length_nil, Nat.reduceAdd, Nat.reduceSub, Array.replicate_succ, Array.replicate_zero, List.push_toArray, List.append_toArray, List.nil_append, List.cons_append]
    gi_wp2
    refine bodyPost_ret (results_tmp rfl _ _ _) rfl ?_
    exact ⟨_, rfl, OwnS.nil _ _, (Below.refl _ w).alloc (Nat.le_refl _) _⟩
  | cons l0 ls0 =>
    obtain ⟨b, po, v, rfl, hs'⟩ := hs
    have hs : IsSc (· < w.heap.size) w (some ⟨b, 0, none⟩) (l0 :: ls0) := ⟨b, po, v, rfl, hs'⟩
    generalize l0 :: ls0 = ls at *
    have hb1 : Below w.heap.size w (w.alloc (.cells #[.slice none 0 0] 22)) := (Below.refl _ w).alloc (Nat.le_refl _) _
    have bx : Boxed (w.alloc (.cells #[.slice none 0 0] 22)) w.heap.size 22 (.slice none 0 0) := Boxed.new w _ _
    have HN := hid (Names_any (· < w.heap.size) ls (some ⟨b, 0, none⟩) (w.alloc (.cells #[.slice none 0 0] 22)) (hs.same (same_below hb1)) (fun b hb => by have : b < w.heap.size := hb; simp; omega))
    have BX := hid bx
    have HB1 := hid hb1
    clear hs hs' hl bx hb1
    refine callsIn_of_wp_marks Tryd.func16 rfl trivial ?_ rfl
    simp only [Tryd.ntmps16, List.size_toArray, List.length_cons, List.length_nil, Nat.reduceAdd, Nat.reduceSub, Array.replicate_succ, Array.replicate_zero, List.push_toArray, List.append_toArray, List.nil_append, List.cons_append]
    gi_wp2
    refine ⟨trivial, (callsIn_wide.2 HN.out).mono ?_⟩
    rintro e w2 ⟨g, lb, c, rfl, eg, ht, hb2⟩
    gi_wp2
    have hz2' : w.heap.size + 1 ≤ w2.heap.size := by have := hb2.size; simp at this; omega
    have bx2 : Boxed w2 w.heap.size 22 (.slice none 0 0) := (hb2.block _ (by simp)).trans BX.out
    have hbw : Below w.heap.size w w2 := HB1.out.trans (hb2.mono (by simp))
    refine range_tellsD (n := 9) (gf := g) (lb := lb) rfl eg ht (fun b hb => by
        rcases hb with hb | hb
        · have : b < w.heap.size := hb
          omega
        · exact hb.2) (fun _ _ => rfl) rfl
      (fun k A => ∃ v, Gath w w.heap.size (w2.heap.size + 2 + c) (told ls) k v A) (fun _ _ _ => False) ?hI ?hIx ?h0
      (fun x => { tmps := #[.pointer (some ⟨b, 0, none⟩), undef, .slice none 0 0, .pointer (some ⟨w.heap.size, 0, none⟩), .string (text x), .pointer (some ⟨b, 0, none⟩), .bool false, undef, .pointer (some ⟨b, 0, none⟩), .func (.func g) #[] lb, .string (text x), undef, undef, undef, undef, undef], defers := [] })
      ?assign ?body ?done ?stop
    case hI =>
      rintro k A B ⟨v, h⟩ hs
      exact ⟨v, h.steps (lo := w2.heap.size) hs (by omega) (Nat.le_refl _)⟩
    case hIx => exact fun _ _ _ _ h _ => h
    case h0 => exact ⟨_, bx2, World.ownsRow_nil _ _ _ _, Nat.zero_le _, hbw⟩
    case assign =>
      intro l x A K hK
      gi_wp2
      exact hK
    case body =>
      rintro l k x A hx hsA ⟨v, hG⟩
      have hkl := (List.getElem?_eq_some_iff.1 hx).1
      have hcb := hG.box.cell
      have hrow := hG.row
      have HG := hid hG
      have HX := hid hx
      have hkk : k ≤ 1000000 := by omega
      clear hG hx
      gi_wp2_with (gi_at_builtin; refine wpListIn_append_own _ rfl _ _ 22 rfl (w2.heap.size + 2 + c) 9 i0 (.string ByteArray.empty) 1 16 underS hi hz0 hz1 hz2 rfl (by decide) _ _ _ rfl (hrow.alloc _) ⟨A.heap.size, 0, none⟩ 1 1 [.string (text x)] rfl rfl (cell_one_new _ _ _) (by simp [Value.oneCell']) (by unfold maxLen; omega) (by omega) (by simp; omega) ?_; intro v' w4 hown' hgrow _; obtain ⟨g', cap', rfl⟩ := ownsRow_succ hown'; obtain ⟨q1, q2, q3, q4⟩ := HG.out.push HX.out hsA (by omega) (Nat.le_refl _) hown' hgrow; have hc4 := q1.cell; have hf4 := q1.frozen)
      refine ⟨fun b hb => ?_, q3, _, q2⟩
      rcases hb with (hb | hb) | hb
      · have : b < w.heap.size := hb
        exact q4 b (by omega) (by omega)
      · have h1 := hb.1
        simp at h1
        exact q4 b (by omega) (by omega)
      · exact q4 b (by omega) (by omega)
    case done =>
      rintro A hsA ⟨v, hG⟩ hK
      have hcb := hG.box.cell
      gi_wp2
      refine ⟨by simp, .inl ⟨_, _, rfl, run_takeDeferred hK, ?_⟩⟩
      have st : Steps w2.heap.size (w2.heap.size + 2 + c) A (A.putObj w2.heap.size (.deferred none)) := Steps.putObj _ _ _ _ _ (by omega) (by omega)
      have h2 := hG.steps st (by omega) (Nat.le_refl _)
      refine ⟨_, results_tmp rfl _ _ _, v, rfl, ?_, h2.bel⟩
      have hr := h2.row
      rw [List.take_length] at hr
      exact OwnS.base (B := w2.heap.size + 2 + c) hr (by omega)
    case stop =>
      rintro cd k A hk hsA h hK
      exact h.elim

theorem names_any (p : Option Addr) (N : List (List UInt8)) (w : World) (h : ScAt w p N) :
    Calls Tryd.prog 16 #[.pointer p] w fun e w' => ∃ v, e = .returned v ∧ OwnS w.heap.size w' v N ∧ Below w.heap.size w w' := by
  obtain ⟨⟨ls, h1, h2, h3⟩, hr, _, _, hf⟩ := h
  have he : told ls = N := Rise.unique (told_rise h2 (h3.symm.nodup hr.nodup)) hr fun x => by rw [(told_perm ls).mem_iff, h3.mem_iff]
  have := callsIn_wide.1 (names_in p ls w h1 (by rw [h3.length_eq]; exact hf))
  rw [he] at this
  exact this
end Go.Proofs.YthggoohchjifnaaDoor.Sc
