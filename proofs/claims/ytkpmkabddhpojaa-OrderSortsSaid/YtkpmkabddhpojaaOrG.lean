/- Layer 14: contract of tally. -/
import Derived.Test.YtkpmkabddhpojaaOrD
import Derived.Test.YtkpmkabddhpojaaOrKahn
set_option linter.unusedVariables false
set_option linter.unusedSimpArgs false
namespace Go.Proofs.Ytkpmkabddhpojaa.Or
open Go Go.Proofs.Ytkpmkabddhpojaa Go.RowKit
set_option maxRecDepth 100000

theorem append_form {B : Nat} {w : World} {v : Value} {l : List Nat} {k : Nat} {g : Nat} (ho : w.ownsRow B 3 1 v l.length (nums l)) (hl : l.length ≤ 1000000000) (hB : B ≤ w.heap.size) (hg : w.heap[g]? = some (.cells #[encN k] 3)) (t : TypeId) (ht : Try.prog.underlying t = some (.slice 3)) :
    ∃ g' cap w', (∀ ty, (Builtin.append_ #[t, t] ty #[v, .slice (some ⟨g, 0, none⟩) 1 1]).run Try.prog w = .ok (.slice (some ⟨g', 0, none⟩) (l.length + 1) cap) w') ∧ w'.ownsRow B 3 1 (.slice (some ⟨g', 0, none⟩) (l.length + 1) cap) (l ++ [k]).length (nums (l ++ [k])) ∧ w.grownBy w' v.ownBlock ∧ (v.ownBlock = some g' ∨ g' = w.heap.size) := by
  obtain ⟨v', w', h1, h2, h3, h4⟩ := append_num B w v l k ho hl hB hg t ht
  obtain ⟨g', cap, rfl⟩ : ∃ g' cap, v' = .slice (some ⟨g', 0, none⟩) (l.length + 1) cap := by
    rcases h2.2 with ⟨_, h0⟩ | ⟨g', cap, cur, e, _⟩
    · simp at h0
    · exact ⟨g', cap, by rw [e]; simp⟩
  exact ⟨g', cap, w', h1, h2, h3, by
    rcases h4 with h4 | h4
    · exact .inl h4.symm
    · injection h4 with h4; exact .inr h4⟩
theorem append_step2 {ops : Array Oper} {rest : List Oper} {o : Oper} {a : Go.Act} {Q : Exit → Go.Act → World → Prop} {B : Nat} {w : World} {v : Value} {l : List Nat} {k : Nat} {g : Nat} (ho : w.ownsRow B 3 1 v l.length (nums l)) (hl : l.length ≤ 1000000000) (hB : B ≤ w.heap.size) (hg : w.heap[g]? = some (.cells #[encN k] 3)) (t : TypeId) (ht : Try.prog.underlying t = some (.slice 3))
    (hgd : o.guard = none) (s x : Operand) (hop : o.op = .call { callee := .builtin .append, args := #[s, x], argTypes := #[t, t] }) (hs : a.eval s = v) (hx : a.eval x = .slice (some ⟨g, 0, none⟩) 1 1)
    (h : ∀ g' cap w', w'.ownsRow B 3 1 (.slice (some ⟨g', 0, none⟩) (l.length + 1) cap) (l ++ [k]).length (nums (l ++ [k])) → w.grownBy w' v.ownBlock → (v.ownBlock = some g' ∨ g' = w.heap.size) → wpList Try.prog ops Q rest (a.put o.dst (.slice (some ⟨g', 0, none⟩) (l.length + 1) cap)) w') : wpList Try.prog ops Q (o :: rest) a w := by
  obtain ⟨g', cap, w', h1, h2, h3, h4⟩ := append_form ho hl hB hg t ht
  refine wpList_plain hgd fun K hK => ?_
  have h5 := h1 o.type
  unfold Oper.wp
  simp [execOp, hop, resolve, invoke, builtin, hs, hx, h5, Result.andThen]
  exact hK _ _ (h g' cap w' h2 h3 h4)

/-- Two makes, in whatever order. -/
theorem make_runs (n : Nat) (hn : n ≤ 1000000000) : ∃ A C : Obj, (∀ W, (Instr.makeSlice 26 (.int .i64 (n : Int)) (.int .i64 (n : Int))).run Try.prog W = .ok (.slice (some ⟨W.heap.size, 0, none⟩) n n) (W.alloc A)) ∧
    (∀ W, (Instr.makeSlice 23 (.int .i64 (n : Int)) (.int .i64 (n : Int))).run Try.prog W = .ok (.slice (some ⟨W.heap.size, 0, none⟩) n n) (W.alloc C)) ∧
    A = .cells (List.replicate n (Value.int .i64 0)).toArray 3 ∧ C = .cells (List.replicate n (Value.slice none 0 0)).toArray 26 := by
  obtain ⟨i, hi, hz, hs, hb⟩ := info3 infoI
  obtain ⟨i2, hi2, hz2, hs2, hb2⟩ := info3 infoR
  refine ⟨_, _, fun W => ?_, fun W => ?_, rfl, rfl⟩
  · have h4 := run_make (P := Try.prog) W 26 3 i _ Try.underlying26 hi hz .i64 .i64 n n (by omega) (Int.le_refl _) (by rw [hb]; omega) (by omega)
    simp only [Int.toNat_natCast, hs] at h4
    rw [h4, ← cells_made (.int .i64 0) rfl n]
  · have h4 := run_make (P := Try.prog) W 23 26 i2 _ Try.underlying23 hi2 hz2 .i64 .i64 n n (by omega) (Int.le_refl _) (by rw [hb2]; omega) (by omega)
    simp only [Int.toNat_natCast, hs2] at h4
    rw [h4, ← cells_made (.slice none 0 0) rfl n]
theorem owns_made {α : Type} (enc : α → Value) (w : World) (e : TypeId) (g B n : Nat) (x : α) (hB : B ≤ g) (hn : n ≤ 1000000000) (hg : w.heap[g]? = some (.cells (List.replicate n (enc x)).toArray e)) : w.ownsRow B e 1 (.slice (some ⟨g, 0, none⟩) n n) (List.replicate n x).length ((List.replicate n x).map enc) := by
  rw [List.length_replicate]
  exact ⟨by simp, .inr ⟨g, n, _, rfl, hB, hg, Nat.le_refl _, by unfold maxLen; omega, by simp, by simp [List.take_of_length_le]⟩⟩

/-- The tally under way: missing holds ms; users holds slices of their own, of who needs what by the pairs p. -/
structure Ty (B : Nat) (n : Nat) (X : World) (mv uv : Value) (ms : List Nat) (p : List (Nat × Nat)) (vs : List Value) : Prop where
  m : X.ownsRow B 3 1 mv ms.length (nums ms)
  ml : ms.length = n
  u : X.ownsRow B 26 1 uv vs.length (vs.map id)
  ul : vs.length = n
  el : ∀ k, k < n → X.ownsRow B 3 1 (vs.getD k .nilIface) (usOf p k).length (nums (usOf p k))
  d : ∀ k j, k < n → j < n → k ≠ j → ∀ b, (vs.getD k .nilIface).ownBlock = some b → (vs.getD j .nilIface).ownBlock ≠ some b
  dm : ∀ k, k < n → ∀ b, (vs.getD k .nilIface).ownBlock = some b → mv.ownBlock ≠ some b
section
variable {B n : Nat} {X : World} {mv uv : Value} {ms : List Nat} {p : List (Nat × Nat)} {vs : List Value}
theorem Ty.base {C : Nat} (h : Ty B n X mv uv ms p vs) (hc : C ≤ B) : Ty C n X mv uv ms p vs := ⟨owns_base h.m hc, h.ml, owns_base h.u hc, h.ul, fun k hk => owns_base (h.el k hk) hc, h.d, h.dm⟩
theorem apart_mu {B B' : Nat} {v v' : Value} {n n' : Nat} {xs xs' : List Value} (h : X.ownsRow B 3 1 v n xs) (h' : X.ownsRow B' 26 1 v' n' xs') {b : Nat} (hb : v.ownBlock = some b) : v'.ownBlock ≠ some b := by
  rcases owns_apart (by decide) h h' with e | e
  · rw [e] at hb; cases hb
  · intro e2; exact e (hb.trans e2.symm)
/-- One more who needs e. -/
theorem Ty.push {e t : Nat} {Y X2 : World} {g' cap ub : Nat} {l : Nat} (h : Ty B n X mv uv ms p vs) (he : e < n) (BY : Below X.heap.size X Y) (hsz : X.heap.size < Y.heap.size)
    (ho : X2.ownsRow B 3 1 (.slice (some ⟨g', 0, none⟩) l cap) (usOf p e ++ [t]).length (nums (usOf p e ++ [t]))) (hg : Y.grownBy X2 (vs.getD e .nilIface).ownBlock) (hgg : (vs.getD e .nilIface).ownBlock = some g' ∨ g' = Y.heap.size) (hub : uv.ownBlock = some ub) :
    Ty B n (X2.setCell ⟨ub, e, none⟩ (.slice (some ⟨g', 0, none⟩) l cap)) mv uv ms (p ++ [(t, e)]) (vs.set e (.slice (some ⟨g', 0, none⟩) l cap)) ∧ Kx (fun b => B ≤ b) X (X2.setCell ⟨ub, e, none⟩ (.slice (some ⟨g', 0, none⟩) l cap)) := by
  have hB : B ≤ ub := (World.ownsRow.lt h.u _ hub).1
  have hubX : ub < X.heap.size := (World.ownsRow.lt h.u _ hub).2
  have hxl : ∀ b, (vs.getD e .nilIface).ownBlock = some b → B ≤ b ∧ b < X.heap.size := fun b hb => World.ownsRow.lt (h.el e he) b hb
  have kY : Kx (fun b => (vs.getD e .nilIface).ownBlock = some b) X X2 := (Kx.of_below BY).tr (Kx.grown hg fun b e => e)
  have kS : Kx (fun b => b = ub ∨ (vs.getD e .nilIface).ownBlock = some b) X (X2.setCell ⟨ub, e, none⟩ (.slice (some ⟨g', 0, none⟩) l cap)) :=
    (kY.mono fun b _ q => .inr q).tr (Kx.set X2 ub e _ (.inl rfl))
  have hu2 : X2.ownsRow B 26 1 uv vs.length (vs.map id) := owns_kx h.u kY fun b hb q => apart_mu (h.el e he) h.u q hb
  obtain ⟨b, hb1, _, _, _, _, _, hset⟩ := own_at (P := Try.prog) (enc := id) hu2 e (by rw [h.ul]; exact he) 23 Try.underlying23 Try.sizeOf26
  obtain rfl : b = ub := by rw [hub] at hb1; injection hb1 with hb1; exact hb1.symm
  have hgub : g' ≠ b := by
    rcases hgg with q | q
    · intro e2; exact apart_mu (h.el e he) h.u q (by rw [hub, e2])
    · have := BY.size; omega
  have hne : ∀ k, k ≠ e → (vs.set e (.slice (some ⟨g', 0, none⟩) l cap)).getD k .nilIface = vs.getD k .nilIface := fun k hk => by
    simp only [List.getD_eq_getElem?_getD, List.getElem?_set]; rw [if_neg (fun q => hk q.symm)]
  have hee : (vs.set e (.slice (some ⟨g', 0, none⟩) l cap)).getD e .nilIface = .slice (some ⟨g', 0, none⟩) l cap := by
    simp [List.getD_eq_getElem?_getD, List.getElem?_set, h.ul, he]
  have hnew : ∀ k, k < n → k ≠ e → ∀ c, (vs.getD k .nilIface).ownBlock = some c → c ≠ g' := fun k hk hke c hc q => by
    rcases hgg with r | r
    · exact h.d k e hk he hke c hc (by rw [r, q])
    · have := (World.ownsRow.lt (h.el k hk) c hc).2; omega
  refine ⟨⟨owns_kx h.m kS fun c hc q => ?_, h.ml, ?_, by rw [List.length_set]; exact h.ul, fun k hk => ?_, fun k j hk hj hkj c hc => ?_, fun k hk c hc => ?_⟩, kS.mono fun c _ q => ?_⟩
  · rcases q with q | q
    · exact apart_mu h.m h.u hc (by rw [hub, q])
    · exact h.dm e he c q hc
  · have := hset (.slice (some ⟨g', 0, none⟩) l cap)
    simpa using this
  · by_cases hke : k = e
    · subst hke
      rw [hee, usOf_snoc, if_pos rfl]
      exact owns_kx ho (Kx.set (S := fun c => c = b) X2 b k _ rfl) fun c hc q => hgub ((Option.some.inj hc).trans q)
    · rw [hne k hke, usOf_snoc, if_neg (fun q => hke q.symm)]
      exact owns_kx (h.el k hk) kS fun c hc q => by
        rcases q with q | q
        · exact apart_mu (h.el k hk) h.u hc (by rw [hub, q])
        · exact h.d k e hk he hke c hc q
  · by_cases hke : k = e
    · subst hke
      rw [hee] at hc
      rw [hne j (fun q => hkj q.symm)]
      intro q
      have hc' : g' = c := Option.some.inj hc
      exact hnew j hj (fun q => hkj q.symm) c q hc'.symm
    · rw [hne k hke] at hc
      by_cases hje : j = e
      · subst hje
        rw [hee]
        intro q
        have q' : g' = c := Option.some.inj q
        exact hnew k hk hke c hc q'.symm
      · rw [hne j hje]; exact h.d k j hk hj hkj c hc
  · by_cases hke : k = e
    · subst hke
      rw [hee] at hc
      have hc' : g' = c := Option.some.inj hc
      rcases hgg with q | q
      · exact h.dm k hk c (by rw [q, hc'])
      · intro r
        have := (World.ownsRow.lt h.m c r).2
        omega
    · rw [hne k hke] at hc
      exact h.dm k hk c hc
  · rcases q with q | q
    · rw [q]; exact hB
    · exact (hxl c q).1
/-- A number of missing is written. -/
theorem Ty.count {i k mb : Nat} (h : Ty B n X mv uv ms p vs) (hi : i < n) (hmb : mv.ownBlock = some mb) : Ty B n (X.setCell ⟨mb, i, none⟩ (encN k)) mv uv (ms.set i k) p vs ∧ Kx (fun b => B ≤ b) X (X.setCell ⟨mb, i, none⟩ (encN k)) := by
  have hB : B ≤ mb := (World.ownsRow.lt h.m _ hmb).1
  obtain ⟨b, hb1, _, _, _, _, _, hset⟩ := own_at (P := Try.prog) h.m i (by rw [h.ml]; exact hi) 26 Try.underlying26 Try.sizeOf3
  obtain rfl : b = mb := by rw [hmb] at hb1; injection hb1 with hb1; exact hb1.symm
  have kS : Kx (fun c => c = b) X (X.setCell ⟨b, i, none⟩ (encN k)) := Kx.set X b i _ rfl
  refine ⟨⟨hset k, by rw [List.length_set]; exact h.ml, owns_kx h.u kS fun c hc q => apart_mu h.m h.u hmb (by rw [hc, q]), h.ul, fun j hj => owns_kx (h.el j hj) kS fun c hc q => h.dm j hj c hc (by rw [q]; exact hmb), h.d, h.dm⟩, kS.mono fun c _ q => by rw [q]; exact hB⟩
end
theorem ty_start {w X : World} {n g1 g2 : Nat} (hn : n ≤ 1000000000) (h1 : X.heap[g1]? = some (.cells (List.replicate n (Value.int .i64 0)).toArray 3)) (h2 : X.heap[g2]? = some (.cells (List.replicate n (Value.slice none 0 0)).toArray 26)) (l1 : w.heap.size ≤ g1) (l2 : w.heap.size ≤ g2) :
    Ty w.heap.size n X (.slice (some ⟨g1, 0, none⟩) n n) (.slice (some ⟨g2, 0, none⟩) n n) (List.replicate n 0) [] (List.replicate n (.slice none 0 0)) where
  m := owns_made encN X 3 g1 _ n 0 l1 hn h1
  ml := by simp
  u := owns_made id X 26 g2 _ n (.slice none 0 0) l2 hn h2
  ul := by simp
  el := fun k hk => by
    have : (List.replicate n (Value.slice none 0 0)).getD k .nilIface = .slice none 0 0 := by simp [hk]
    rw [this]; exact ⟨rfl, .inl ⟨rfl, rfl⟩⟩
  d := fun k j hk hj hkj b hb => by
    have : (List.replicate n (Value.slice none 0 0)).getD k .nilIface = .slice none 0 0 := by simp [hk]
    rw [this] at hb; cases hb
  dm := fun k hk b hb => by
    have : (List.replicate n (Value.slice none 0 0)).getD k .nilIface = .slice none 0 0 := by simp [hk]
    rw [this] at hb; cases hb
theorem len_step (N : List (List Nat)) (i : Nat) (hi : i < N.length) : ((N.take i).map List.length ++ List.replicate (N.length - i) 0).set i (row N i).length = (N.take (i + 1)).map List.length ++ List.replicate (N.length - (i + 1)) 0 := by
  obtain ⟨m, hm⟩ : ∃ m, N.length - i = m + 1 := ⟨N.length - i - 1, by omega⟩
  have hr : row N i = N[i] := by simp [row, hi]
  rw [hm, show N.length - (i + 1) = m from by omega, List.take_succ_eq_append_getElem hi, List.map_append, List.set_append, hr]
  simp [List.replicate_succ, Nat.min_eq_left (Nat.le_of_lt hi)]
set_option maxHeartbeats 8000000 in
theorem tally_any {D : Nat → Prop} (v : Value) (N : List (List Nat)) (w : World) (hv : Nd encN D w v N) (hR : Right N) (hn : N.length + mass N ≤ 1000000) :
    Calls Try.prog 28 #[v] w fun e w' => ∃ mv uv vs, e = .returned (.tuple #[mv, uv]) ∧ Ty w.heap.size N.length w' mv uv (N.map List.length) (prs N N.length) vs ∧ Below w.heap.size w w' := by
  have mixed : Try.prog.follows Departure.mixedOrders = true := by kernel_rfl
  have hlen := fun W => hv.len (P := Try.prog) 23 3 26 Try.underlying23 W
  obtain ⟨A, C, mkA, mkC, hA, hC⟩ := make_runs N.length (by omega)
  have HV := hid hv
  have HR := hid hR
  have T1 := hid (ty_start (w := w) (X := ((w.alloc A).alloc C).drew) (n := N.length) (g1 := w.heap.size) (g2 := w.heap.size + 1) (by omega)
    (by rw [← hA]; exact (Below.heap_alloc (w.alloc A) C w.heap.size (by simp)).trans (heap_alloc_new w A)) (by rw [← hC]; have := heap_alloc_new (w.alloc A) C; rwa [World.size_alloc] at this) (Nat.le_refl _) (by omega))
  have T2 := hid (ty_start (w := w) (X := ((w.alloc C).alloc A).drew) (n := N.length) (g1 := w.heap.size + 1) (g2 := w.heap.size) (by omega)
    (by rw [← hA]; have := heap_alloc_new (w.alloc C) A; rwa [World.size_alloc] at this) (by rw [← hC]; exact (Below.heap_alloc (w.alloc C) A w.heap.size (by simp)).trans (heap_alloc_new w C)) (by omega) (Nat.le_refl _))
  have HB1 := hid (show Below w.heap.size w ((w.alloc A).alloc C).drew from (ba (ba (b0 w) A) C).drew)
  have HB2 := hid (show Below w.heap.size w ((w.alloc C).alloc A).drew from (ba (ba (b0 w) C) A).drew)
  clear hv hA hC hR
  go_enter Try.func28, Try.ntmps28
  go_wp2_with fail
  go_region
  all_goals go_wp2_with fail
  · have TS := T1
    have HB := HB1
    clear T1 T2 HB1 HB2
    generalize Value.slice (some ⟨w.heap.size, 0, none⟩) N.length N.length = mv at *
    generalize Value.slice (some ⟨w.heap.size + 1, 0, none⟩) N.length N.length = uv at *
    go_loopg [16] N.length (fun kx s16 X => ∃ (i : Nat) (vs : List Value), s16 = .int .i64 i ∧ i ≤ N.length ∧ N.length - i ≤ kx ∧ Hid (Below w.heap.size w X) ∧ Hid (Ty w.heap.size N.length X mv uv ((N.take i).map List.length ++ List.replicate (N.length - i) 0) (prs N i) vs))
    case atStart => exact ⟨0, _, rfl, Nat.zero_le _, by omega, HB, by simpa [prs] using TS⟩
    case round =>
      rename World => X
      obtain ⟨i, vs, rfl, hi, hg, BX, I⟩ := hrel
      by_cases hil : i < N.length
      · obtain ⟨b, o, x, hix, hcw, hxw⟩ := HV.out.at (P := Try.prog) i hil 23 26 Try.underlying23 Try.sizeOf26
        have hrow : N[i] = row N i := by simp [row, hil]
        rw [hrow] at hxw
        have hc := (BX.out.cell (p := ⟨b, o, none⟩) (World.block_lt_of_cell? _ _ hcw)).trans hcw
        have hx1 := hxw.1.below BX.out (Nat.le_refl _)
        have HXW := hid hxw.1
        have hlen2 := fun W => hx1.len (P := Try.prog) 26 3 3 Try.underlying26 W
        have hrl : ∀ k ∈ row N i, k < N.length := fun k hk => (row_lt HR.out hk).1
        have hmass : (prs N i).length + (row N i).length ≤ 1000000 := by
          have h1 := prs_le N (i + 1) (by omega)
          rw [prs_succ, List.length_append, List.length_map] at h1
          omega
        have HST := hid (len_step N i hil)
        have HPS := hid (prs_succ N i)
        generalize row N i = l at *
        have hob : ∃ mb, mv.ownBlock = some mb := by
          obtain ⟨b, hb, _⟩ := own_at (P := Try.prog) I.out.m i (by rw [I.out.ml]; exact hil) 26 Try.underlying26 Try.sizeOf3
          exact ⟨b, hb⟩
        obtain ⟨mb, hmb⟩ := hob
        obtain ⟨b0', hb0, hixm, hcm, hfm, _, _, _⟩ := own_at (P := Try.prog) I.out.m i (by rw [I.out.ml]; exact hil) 26 Try.underlying26 Try.sizeOf3
        obtain rfl : b0' = mb := by rw [hmb] at hb0; injection hb0 with hb0; exact hb0.symm
        obtain ⟨t1, k1⟩ := I.out.count (i := i) (k := l.length) hil hmb
        rw [HST.out] at t1
        obtain ⟨X1, hX1⟩ : ∃ X1, X.setCell ⟨b0', i, none⟩ (encN l.length) = X1 := ⟨_, rfl⟩
        rw [hX1] at t1 k1
        simp only [encN] at hX1
        have T1 := hid t1
        have B1 := hid (k1.below BX.out fun b q => q)
        have HRL := hid hrl
        have hle2 := hx1.le
        obtain ⟨u0, hcm⟩ : ∃ u0, X.cell? ⟨b0', i, none⟩ = some u0 := ⟨_, hcm⟩
        clear t1 k1 hxw hcw hx1 hrl hb0 hmb hrow
        go_wp2
        go_loopg [28] l.length (fun kx s28 Z => ∃ (j : Nat) (vs : List Value), s28 = .int .i64 j ∧ j ≤ l.length ∧ l.length - j ≤ kx ∧ Hid (Below w.heap.size w Z) ∧ Hid (Ty w.heap.size N.length Z mv uv ((N.take (i + 1)).map List.length ++ List.replicate (N.length - (i + 1)) 0) (prs N i ++ (l.take j).map fun k => (i, k)) vs))
        case atStart => exact ⟨0, vs, rfl, Nat.zero_le _, by omega, B1, by simpa using T1⟩
        case round =>
          rename World => Z
          obtain ⟨j, vs, rfl, hj, hgj, BZ, J⟩ := hrel
          by_cases hjl : j < l.length
          · obtain ⟨b2, o2, hix2, hc2⟩ := row_at (P := Try.prog) (HXW.out.below BZ.out (Nat.le_refl _)) j hjl 26 3 Try.underlying26 Try.sizeOf3
            simp only [encN] at hc2
            have hel := HRL.out _ (List.getElem_mem hjl)
            have HPN := hid (show prs N i ++ (l.take (j + 1)).map (fun k => (i, k)) = (prs N i ++ (l.take j).map fun k => (i, k)) ++ [(i, l[j])] by rw [List.take_succ_eq_append_getElem hjl, List.map_append, List.map_singleton, List.append_assoc])
            have HLE := hid (show (prs N i ++ (l.take j).map fun k => (i, k)).length ≤ 1000000 by rw [List.length_append, List.length_map, List.length_take]; omega)
            generalize l[j] = e at *
            generalize (prs N i ++ (l.take j).map fun k => (i, k)) = p at *
            obtain ⟨ub, hub, hixu, hcu, hfu, _, hubl, _⟩ := own_at (P := Try.prog) (enc := id) J.out.u e (by rw [J.out.ul]; exact hel) 23 Try.underlying23 Try.sizeOf26
            have hge : vs.getD e .nilIface = vs[e]'(by rw [J.out.ul]; exact hel) := by simp [J.out.ul, hel]
            simp only [id] at hcu
            rw [← hge] at hcu
            have hown := J.out.el e hel
            have hapt := fun b hb => apart_mu hown J.out.u (b := b) hb
            have PUSH := hid (fun Y X2 g' cap h1 h2 h3 h4 h5 => J.out.push (t := i) (e := e) (Y := Y) (X2 := X2) (g' := g') (cap := cap) (ub := ub) (l := (usOf p e).length + 1) hel h1 h2 h3 h4 h5 hub)
            obtain ⟨Y, hY⟩ : ∃ Y, Z.alloc (.cells #[.int .i64 (i : Int)] 3) = Y := ⟨_, rfl⟩
            have BY : Below Z.heap.size Z Y := hY ▸ ba (b0 Z) _
            have PY : Y.heap[Z.heap.size]? = some (.cells #[.int .i64 (i : Int)] 3) := hY ▸ heap_alloc_new Z _
            have hY0 := lt_of_at PY
            have HOY := hid (owns_later hown BY)
            have HBY := hid (BZ.out.trans (BY.mono BZ.out.size))
            have HYZ := hid BY
            have HPY := hid PY
            have HLL := hid (show (usOf p e).length ≤ 1000000000 by have := usOf_le p e; have := HLE.out; omega)
            have HAP := hid (show ∀ b, (vs.getD e .nilIface).ownBlock = some b → ub ≠ b from fun b hb q => hapt b hb (by rw [hub, q]))
            have HCY := hid (show Y.heap[ub]? = Z.heap[ub]? from BY.block ub hubl)
            have HUB := hid hubl
            have HCU := hid hcu
            have HFU := hid hfu
            clear hown hapt BY PY hub hge hfu hel
            generalize vs.getD e .nilIface = xe at *
            go_wp2_with (at_builtin; refine append_step2 HOY.out HLL.out HBY.out.size HPY.out 26 Try.underlying26 rfl _ _ rfl rfl rfl ?_)
            intro g' cap X2 ho2 hg2 hgg2
            have hub2 : X2.heap[ub]? = Z.heap[ub]? := (hg2.block ub (by have := HUB.out; omega) (fun q => HAP.out ub q.symm rfl)).trans HCY.out
            have hcX : X2.cell? ⟨ub, e, none⟩ = some xe := (World.cell?_of_block (a := ⟨ub, e, none⟩) hub2).trans HCU.out
            have hfX : X2.frozen? ⟨ub, e, none⟩ = false := (World.frozen?_of_block (a := ⟨ub, e, none⟩) hub2).trans HFU.out
            obtain ⟨t3, k3⟩ := PUSH.out Y X2 g' cap HYZ.out (by omega) (by simpa using ho2) hg2 hgg2
            have T3 := hid t3
            have B3 := hid (k3.below BZ.out fun b q => q)
            clear ho2 hg2 hgg2 hub2 t3 k3
            go_wp2_with fail
            go_roundg (l.length - (j + 1))
            case measure => omega
            case rel => exact ⟨j + 1, _, by go_num, by omega, Nat.le_refl _, B3, by rw [HPN.out]; exact T3⟩
          · obtain rfl : j = l.length := by omega
            have J2 := hid (show Ty w.heap.size N.length Z mv uv ((N.take (i + 1)).map List.length ++ List.replicate (N.length - (i + 1)) 0) (prs N (i + 1)) vs by rw [HPS.out]; simpa using J.out)
            go_wp2
            go_roundg (N.length - (i + 1))
            case measure => omega
            case rel => exact ⟨i + 1, vs, by go_num, by omega, Nat.le_refl _, BZ, J2⟩
      · obtain rfl : i = N.length := by omega
        have J2 := hid (show Ty w.heap.size N.length X mv uv (N.map List.length) (prs N N.length) vs by simpa using I.out)
        go_wp2
        go_ret2
        exact ⟨mv, uv, vs, rfl, J2.out, BX.out⟩
  · have TS := T2
    have HB := HB2
    clear T1 T2 HB1 HB2
    generalize Value.slice (some ⟨w.heap.size, 0, none⟩) N.length N.length = uv at *
    generalize Value.slice (some ⟨w.heap.size + 1, 0, none⟩) N.length N.length = mv at *
    go_loopg [16] N.length (fun kx s16 X => ∃ (i : Nat) (vs : List Value), s16 = .int .i64 i ∧ i ≤ N.length ∧ N.length - i ≤ kx ∧ Hid (Below w.heap.size w X) ∧ Hid (Ty w.heap.size N.length X mv uv ((N.take i).map List.length ++ List.replicate (N.length - i) 0) (prs N i) vs))
    case atStart => exact ⟨0, _, rfl, Nat.zero_le _, by omega, HB, by simpa [prs] using TS⟩
    case round =>
      rename World => X
      obtain ⟨i, vs, rfl, hi, hg, BX, I⟩ := hrel
      by_cases hil : i < N.length
      · obtain ⟨b, o, x, hix, hcw, hxw⟩ := HV.out.at (P := Try.prog) i hil 23 26 Try.underlying23 Try.sizeOf26
        have hrow : N[i] = row N i := by simp [row, hil]
        rw [hrow] at hxw
        have hc := (BX.out.cell (p := ⟨b, o, none⟩) (World.block_lt_of_cell? _ _ hcw)).trans hcw
        have hx1 := hxw.1.below BX.out (Nat.le_refl _)
        have HXW := hid hxw.1
        have hlen2 := fun W => hx1.len (P := Try.prog) 26 3 3 Try.underlying26 W
        have hrl : ∀ k ∈ row N i, k < N.length := fun k hk => (row_lt HR.out hk).1
        have hmass : (prs N i).length + (row N i).length ≤ 1000000 := by
          have h1 := prs_le N (i + 1) (by omega)
          rw [prs_succ, List.length_append, List.length_map] at h1
          omega
        have HST := hid (len_step N i hil)
        have HPS := hid (prs_succ N i)
        generalize row N i = l at *
        have hob : ∃ mb, mv.ownBlock = some mb := by
          obtain ⟨b, hb, _⟩ := own_at (P := Try.prog) I.out.m i (by rw [I.out.ml]; exact hil) 26 Try.underlying26 Try.sizeOf3
          exact ⟨b, hb⟩
        obtain ⟨mb, hmb⟩ := hob
        obtain ⟨b0', hb0, hixm, hcm, hfm, _, _, _⟩ := own_at (P := Try.prog) I.out.m i (by rw [I.out.ml]; exact hil) 26 Try.underlying26 Try.sizeOf3
        obtain rfl : b0' = mb := by rw [hmb] at hb0; injection hb0 with hb0; exact hb0.symm
        obtain ⟨t1, k1⟩ := I.out.count (i := i) (k := l.length) hil hmb
        rw [HST.out] at t1
        obtain ⟨X1, hX1⟩ : ∃ X1, X.setCell ⟨b0', i, none⟩ (encN l.length) = X1 := ⟨_, rfl⟩
        rw [hX1] at t1 k1
        simp only [encN] at hX1
        have T1 := hid t1
        have B1 := hid (k1.below BX.out fun b q => q)
        have HRL := hid hrl
        have hle2 := hx1.le
        obtain ⟨u0, hcm⟩ : ∃ u0, X.cell? ⟨b0', i, none⟩ = some u0 := ⟨_, hcm⟩
        clear t1 k1 hxw hcw hx1 hrl hb0 hmb hrow
        go_wp2
        go_loopg [28] l.length (fun kx s28 Z => ∃ (j : Nat) (vs : List Value), s28 = .int .i64 j ∧ j ≤ l.length ∧ l.length - j ≤ kx ∧ Hid (Below w.heap.size w Z) ∧ Hid (Ty w.heap.size N.length Z mv uv ((N.take (i + 1)).map List.length ++ List.replicate (N.length - (i + 1)) 0) (prs N i ++ (l.take j).map fun k => (i, k)) vs))
        case atStart => exact ⟨0, vs, rfl, Nat.zero_le _, by omega, B1, by simpa using T1⟩
        case round =>
          rename World => Z
          obtain ⟨j, vs, rfl, hj, hgj, BZ, J⟩ := hrel
          by_cases hjl : j < l.length
          · obtain ⟨b2, o2, hix2, hc2⟩ := row_at (P := Try.prog) (HXW.out.below BZ.out (Nat.le_refl _)) j hjl 26 3 Try.underlying26 Try.sizeOf3
            simp only [encN] at hc2
            have hel := HRL.out _ (List.getElem_mem hjl)
            have HPN := hid (show prs N i ++ (l.take (j + 1)).map (fun k => (i, k)) = (prs N i ++ (l.take j).map fun k => (i, k)) ++ [(i, l[j])] by rw [List.take_succ_eq_append_getElem hjl, List.map_append, List.map_singleton, List.append_assoc])
            have HLE := hid (show (prs N i ++ (l.take j).map fun k => (i, k)).length ≤ 1000000 by rw [List.length_append, List.length_map, List.length_take]; omega)
            generalize l[j] = e at *
            generalize (prs N i ++ (l.take j).map fun k => (i, k)) = p at *
            obtain ⟨ub, hub, hixu, hcu, hfu, _, hubl, _⟩ := own_at (P := Try.prog) (enc := id) J.out.u e (by rw [J.out.ul]; exact hel) 23 Try.underlying23 Try.sizeOf26
            have hge : vs.getD e .nilIface = vs[e]'(by rw [J.out.ul]; exact hel) := by simp [J.out.ul, hel]
            simp only [id] at hcu
            rw [← hge] at hcu
            have hown := J.out.el e hel
            have hapt := fun b hb => apart_mu hown J.out.u (b := b) hb
            have PUSH := hid (fun Y X2 g' cap h1 h2 h3 h4 h5 => J.out.push (t := i) (e := e) (Y := Y) (X2 := X2) (g' := g') (cap := cap) (ub := ub) (l := (usOf p e).length + 1) hel h1 h2 h3 h4 h5 hub)
            obtain ⟨Y, hY⟩ : ∃ Y, Z.alloc (.cells #[.int .i64 (i : Int)] 3) = Y := ⟨_, rfl⟩
            have BY : Below Z.heap.size Z Y := hY ▸ ba (b0 Z) _
            have PY : Y.heap[Z.heap.size]? = some (.cells #[.int .i64 (i : Int)] 3) := hY ▸ heap_alloc_new Z _
            have hY0 := lt_of_at PY
            have HOY := hid (owns_later hown BY)
            have HBY := hid (BZ.out.trans (BY.mono BZ.out.size))
            have HYZ := hid BY
            have HPY := hid PY
            have HLL := hid (show (usOf p e).length ≤ 1000000000 by have := usOf_le p e; have := HLE.out; omega)
            have HAP := hid (show ∀ b, (vs.getD e .nilIface).ownBlock = some b → ub ≠ b from fun b hb q => hapt b hb (by rw [hub, q]))
            have HCY := hid (show Y.heap[ub]? = Z.heap[ub]? from BY.block ub hubl)
            have HUB := hid hubl
            have HCU := hid hcu
            have HFU := hid hfu
            clear hown hapt BY PY hub hge hfu hel
            generalize vs.getD e .nilIface = xe at *
            go_wp2_with (at_builtin; refine append_step2 HOY.out HLL.out HBY.out.size HPY.out 26 Try.underlying26 rfl _ _ rfl rfl rfl ?_)
            intro g' cap X2 ho2 hg2 hgg2
            have hub2 : X2.heap[ub]? = Z.heap[ub]? := (hg2.block ub (by have := HUB.out; omega) (fun q => HAP.out ub q.symm rfl)).trans HCY.out
            have hcX : X2.cell? ⟨ub, e, none⟩ = some xe := (World.cell?_of_block (a := ⟨ub, e, none⟩) hub2).trans HCU.out
            have hfX : X2.frozen? ⟨ub, e, none⟩ = false := (World.frozen?_of_block (a := ⟨ub, e, none⟩) hub2).trans HFU.out
            obtain ⟨t3, k3⟩ := PUSH.out Y X2 g' cap HYZ.out (by omega) (by simpa using ho2) hg2 hgg2
            have T3 := hid t3
            have B3 := hid (k3.below BZ.out fun b q => q)
            clear ho2 hg2 hgg2 hub2 t3 k3
            go_wp2_with fail
            go_roundg (l.length - (j + 1))
            case measure => omega
            case rel => exact ⟨j + 1, _, by go_num, by omega, Nat.le_refl _, B3, by rw [HPN.out]; exact T3⟩
          · obtain rfl : j = l.length := by omega
            have J2 := hid (show Ty w.heap.size N.length Z mv uv ((N.take (i + 1)).map List.length ++ List.replicate (N.length - (i + 1)) 0) (prs N (i + 1)) vs by rw [HPS.out]; simpa using J.out)
            go_wp2
            go_roundg (N.length - (i + 1))
            case measure => omega
            case rel => exact ⟨i + 1, vs, by go_num, by omega, Nat.le_refl _, BZ, J2⟩
      · obtain rfl : i = N.length := by omega
        have J2 := hid (show Ty w.heap.size N.length X mv uv (N.map List.length) (prs N N.length) vs by simpa using I.out)
        go_wp2
        go_ret2
        exact ⟨mv, uv, vs, rfl, J2.out, BX.out⟩
end Go.Proofs.Ytkpmkabddhpojaa.Or
