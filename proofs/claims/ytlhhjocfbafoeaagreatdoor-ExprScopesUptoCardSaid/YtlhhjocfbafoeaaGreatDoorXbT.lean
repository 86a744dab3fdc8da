/- Layer 9: the walk of the statement ScopeAsks. | Layer 9: the iterators: slices.Values, that of no scope, and both. | Layer 9: the iterator of two rising rows: both. | Layer 9: rows out of iterators: AppendSeq and Collect; what makes the iterators. | Layer 9: contracts of within and With at any scope. | Layer 9: contract of Names; the statements' own names and same. | Layer 9: contracts of the document's own Right, of same, of great whatever comes, of Longest at no scope. | Layer 9: as many names as there may be. | Layer 9: the document's With, and the walk of the statement ScopeMakes. -/
import Derived.Test.YtlhhjocfbafoeaaGreatDoorXbS
import Derived.Test.YtlhhjocfbafoeaaGreatDoorRange4
import Derived.RangeFuncBox
import Derived.RangeFuncWrites
import Derived.Shelf.Abstract
import Derived.Shelf.AbstractIn
import Derived.Shelf.RegionOpen
import Derived.OwnWalkIn
import Derived.TacticsInMore
import Derived.LoopNIn
import Derived.LoopIn
import Derived.Maps.AppendAt
import Derived.Laws.Bits128
import Derived.Test.YtlhhjocfbafoeaaGreatDoorApp
set_option linter.unusedVariables false
set_option linter.unusedSimpArgs false
namespace Go.Proofs.YtlhhjocfbafoeaaGreatDoor.Sc
open Go Go.Proofs.YtlhhjocfbafoeaaGreatDoor Go.Proofs.YtlhhjocfbafoeaaGreatDoor.Utf Go.Proofs.YtlhhjocfbafoeaaGreatDoor.Names Go.RowKit
set_option maxRecDepth 100000

theorem eights_mass : ∀ l : List (List UInt8), l.length + eights l ≤ strMass l
  | [] => by simp [eights, strMass]
  | x :: l => by
    have := eights_mass l
    rw [strMass_cons, List.length_cons]
    have e : eights (x :: l) = x.length / 8 + eights l := by simp [eights]
    omega
theorem massG_mass : ∀ r : List (List (List UInt8)), massG r ≤ (r.map strMass).sum
  | [] => by simp [massG]
  | l :: r => by
    have := massG_mass r
    have h := eights_mass l
    have e : massG (l :: r) = l.length + eights l + massG r := by simp [massG]
    rw [List.map_cons, List.sum_cons]; omega
theorem said_mass : ∀ ws : List (List UInt8), (said ws).length ≤ strMass ws
  | [] => by simp [said]
  | [a] => by rw [strMass_cons]; simp only [said]; omega
  | a :: b :: r => by
    have := said_mass (b :: r)
    rw [strMass_cons]
    simp only [said, List.length_append, List.length_cons]
    omega
theorem eights_mem : ∀ {l : List (List UInt8)} {x : List UInt8}, x ∈ l → x.length / 8 ≤ eights l
  | [], x, h => by cases h
  | y :: l, x, h => by
    have e : eights (y :: l) = y.length / 8 + eights l := by simp [eights]
    rcases List.mem_cons.1 h with rfl | h
    · omega
    · have := eights_mem h; omega
/-- What isn't great is short. -/
theorem short_of {r : List (List (List UInt8))} (h : ¬ 400 < massG r) {l : List (List UInt8)} (hl : l ∈ r) : l.length ≤ 400 ∧ ∀ x ∈ l, x.length ≤ 3207 := by
  have : ∀ r : List (List (List UInt8)), l ∈ r → l.length + eights l ≤ massG r := by
    intro r
    induction r with
    | nil => intro h; cases h
    | cons y r ih =>
      intro h
      have e : massG (y :: r) = y.length + eights y + massG r := by simp [massG]
      rcases List.mem_cons.1 h with rfl | h
      · omega
      · have := ih h; omega
  have h1 := this r hl
  exact ⟨by omega, fun x hx => by have := eights_mem hx; omega⟩
theorem slice_of {w : World} {v : Value} {l : List (List UInt8)} (h : Strs w v l) : ∃ a n c, v = .slice a n c := by
  obtain ⟨⟨a, c, e, _⟩, _⟩ := h
  exact ⟨a, _, c, e⟩
theorem name_of (s : ByteArray) : ∃ l, s = text l ∧ l.length = s.size := ⟨s.data.toList, by simp [text], (Lib.size_eq s).symm⟩

end Go.Proofs.YtlhhjocfbafoeaaGreatDoor.Sc
namespace Go.Proofs.YtlhhjocfbafoeaaGreatDoor.Sc
open Go Go.Proofs.YtlhhjocfbafoeaaGreatDoor Go.Proofs.YtlhhjocfbafoeaaGreatDoor.Utf Go.Proofs.YtlhhjocfbafoeaaGreatDoor.Names Go.RowKit Go.Shelf
set_option maxRecDepth 100000
attribute [local go_sem] Oper.semAt_some

def encT (x : List UInt8) : Value := .string (text x)
/-- Two rising rows, rising. -/
def mrg : List (List UInt8) → List (List UInt8) → List (List UInt8)
  | [], own => own
  | x :: xs, own => own.takeWhile (fun y => Op.bytesLess y x) ++ x :: mrg xs (own.dropWhile (fun y => Op.bytesLess y x))
theorem mrg_lt {x y : List UInt8} {xs r : List (List UInt8)} (h : Op.bytesLess y x = true) : mrg (x :: xs) (y :: r) = y :: mrg (x :: xs) r := by
  simp only [mrg, List.takeWhile_cons, List.dropWhile_cons, h, if_true, List.cons_append]
theorem mrg_ge {x y : List UInt8} {xs r : List (List UInt8)} (h : Op.bytesLess y x = false) : mrg (x :: xs) (y :: r) = x :: mrg xs (y :: r) := by
  simp only [mrg, List.takeWhile_cons, List.dropWhile_cons, h, Bool.false_eq_true, if_false, List.nil_append]
theorem mrg_none {x : List UInt8} {xs : List (List UInt8)} : mrg (x :: xs) [] = x :: mrg xs [] := by simp [mrg]
theorem mrg_perm : ∀ (xs own : List (List UInt8)), (mrg xs own).Perm (xs ++ own)
  | [], own => by simp [mrg]
  | x :: xs, own => by
    have h := mrg_perm xs (own.dropWhile (fun y => Op.bytesLess y x))
    have e := List.takeWhile_append_dropWhile (p := fun y => Op.bytesLess y x) (l := own)
    show (own.takeWhile _ ++ x :: mrg xs _).Perm (x :: (xs ++ own))
    refine List.perm_middle.trans (List.Perm.cons x ?_)
    refine (h.append_left _).trans ?_
    rw [← List.append_assoc]
    refine (List.perm_append_comm.append_right _).trans ?_
    rw [List.append_assoc, e]
theorem mrg_rise : ∀ {xs own : List (List UInt8)}, Rise xs → Rise own → (∀ a ∈ xs, a ∉ own) → Rise (mrg xs own)
  | [], own, _, h, _ => h
  | x :: xs, own, hx, ho, hd => by
    have hx' := List.pairwise_cons.1 hx
    have e := List.takeWhile_append_dropWhile (p := fun y => Op.bytesLess y x) (l := own)
    have hsub : ∀ z, z ∈ own.dropWhile (fun y => Op.bytesLess y x) → z ∈ own := fun z hz => by rw [← e]; exact List.mem_append_right _ hz
    have ho2 : Rise (own.dropWhile (fun y => Op.bytesLess y x)) := List.Pairwise.sublist (List.dropWhile_sublist _) ho
    have ih := mrg_rise hx'.2 ho2 (fun a ha h => hd a (List.mem_cons_of_mem _ ha) (hsub a h))
    have hgt : ∀ z ∈ own.dropWhile (fun y => Op.bytesLess y x), Op.bytesLess x z = true := fun z hz => by
      cases hdw : own.dropWhile (fun y => Op.bytesLess y x) with
      | nil => rw [hdw] at hz; cases hz
      | cons y r =>
        have hy : Op.bytesLess y x = false := by
          have := List.head?_dropWhile_not (p := fun y => Op.bytesLess y x) own
          rw [hdw] at this
          simpa using this
        have hxy : x ≠ y := fun h => hd x (by simp) (by rw [h]; exact hsub y (by rw [hdw]; simp))
        have h1 : Op.bytesLess x y = true := (less_total hxy).resolve_right (by rw [hy]; simp)
        rw [hdw] at hz
        rcases List.mem_cons.1 hz with rfl | hz
        · exact h1
        · rw [hdw] at ho2
          exact less_trans h1 ((List.pairwise_cons.1 ho2).1 z hz)
    refine List.pairwise_append.2 ⟨List.Pairwise.sublist (List.takeWhile_sublist _) ho, List.pairwise_cons.2 ⟨fun z hz => ?_, ih⟩, fun a ha b hb => ?_⟩
    · rcases List.mem_append.1 ((mrg_perm _ _).mem_iff.1 hz) with h | h
      · exact hx'.1 z h
      · exact hgt z h
    · have hax : Op.bytesLess a x = true := by
        have := List.all_takeWhile (p := fun y => Op.bytesLess y x) (l := own)
        exact List.all_eq_true.1 this a ha
      rcases List.mem_cons.1 hb with rfl | hb
      · exact hax
      · rcases List.mem_append.1 ((mrg_perm _ _).mem_iff.1 hb) with h | h
        · exact less_trans hax (hx'.1 b h)
        · exact less_trans hax (hgt b h)

set_option maxHeartbeats 2000000 in
theorem values_tells (D : Nat → Prop) (b : Nat) (v : Value) (l : List (List UInt8)) (w : World) (hb : D b) (hc : w.cell? ⟨b, 0, none⟩ = some v) (hv : StrsD D w v l) : TellsD Tryz.prog D 0 115 #[.pointer (some ⟨b, 0, none⟩)] encT l w := by
  intro lp J Jx W hW hDW hJ hJx hY h0
  have hvW : StrsD D W v l := hv.same hW
  have hle := hvW.1.le
  have hlen := fun X => hvW.1.len (P := Tryz.prog) 22 3 9 Tryz.underlying22 X
  have hcW : W.cell? ⟨b, 0, none⟩ = some v := by rw [show W.cell? ⟨b, 0, none⟩ = w.cell? ⟨b, 0, none⟩ from Same.cell (D := D) hW hb]; exact hc
  have HV := hid hvW
  have HY := hid hY
  have HJ := hid hJ
  have H0 := hid h0
  clear hv hc hW hvW hY hJ hJx h0
  refine callsIn_of_wp Tryz.func115 rfl trivial ?_ rfl
  simp only [Tryz.ntmps115, List.size_toArray, List.length_cons, List.length_nil, Nat.reduceAdd, Nat.reduceSub, Array.replicate_succ, Array.replicate_zero, List.push_toArray, List.append_toArray, List.nil_append, List.cons_append]
  gi_wp2
  gi_loopg [7] l.length (fun kx s7 wr => ∃ i : Nat, s7 = .int .i64 i ∧ i ≤ l.length ∧ l.length - i ≤ kx ∧ Hid (J i wr ∧ Same D W wr ∧ W.heap.size ≤ wr.heap.size))
  case atStart => exact ⟨0, rfl, Nat.zero_le _, by omega, hid ⟨H0.out, Same.refl _ _, Nat.le_refl _⟩⟩
  case round =>
    obtain ⟨i, rfl, hi, hg, I⟩ := hrel
    by_cases hil : i < l.length
    · have hs := (HV.out.same I.out.2.1).1
      obtain ⟨b2, o2, hix, hcl⟩ := hs.at (P := Tryz.prog) i hil 22 9 Tryz.underlying22 Tryz.sizeOf9
      obtain ⟨fn, tmps, assign, body, hy, hR⟩ := yield_any (m' := 8) (HY.out i l[i] wr (List.getElem?_eq_getElem hil) (by have := I.out.2.2; omega) I.out.1)
      have HR := hid hR
      have e1 : encT l[i] = .string (text l[i]) := rfl
      rw [e1] at hy
      generalize text l[i] = ty at *
      clear hs hR
      gi_wp2
      refine HR.out.mono ?_
      rintro e W3 ⟨bb, rfl, hl3, hz3, hJ3⟩
      have K3 := hid (And.intro hl3 hJ3)
      have Z3 := hid (Nat.le_trans I.out.2.2 hz3)
      clear hl3 hJ3 hz3
      cases bb
      · gi_wp2
        refine bodyPost_ret (results_none rfl _ _ _) rfl ?_
        exact ⟨⟨_, rfl⟩, Z3.out, .inr ⟨i + 1, hil, by simpa using K3.out.2⟩⟩
      · gi_wp2
        go_roundg (l.length - (i + 1))
        case measure => omega
        case rel => exact ⟨i + 1, by go_num, by omega, Nat.le_refl _, hid ⟨by simpa using K3.out.2, I.out.2.1.trans fun x hx => K3.out.1 x (.inl hx), Z3.out⟩⟩
    · have e : i = l.length := by omega
      subst e
      have HE := I
      clear I
      gi_wp2
      go_end0
      exact ⟨⟨_, rfl⟩, HE.out.2.2, .inl HE.out.1⟩
end Go.Proofs.YtlhhjocfbafoeaaGreatDoor.Sc
namespace Go.Proofs.YtlhhjocfbafoeaaGreatDoor.Sc
open Go Go.Proofs.YtlhhjocfbafoeaaGreatDoor Go.Proofs.YtlhhjocfbafoeaaGreatDoor.Utf Go.Proofs.YtlhhjocfbafoeaaGreatDoor.Names Go.RowKit Go.Shelf
set_option maxRecDepth 100000
attribute [local go_sem] Oper.semAt_some

theorem slice_form {w : World} {v : Value} {l : List (List UInt8)} (h : Strs w v l) : ∃ a n c, v = .slice a n c := by
  obtain ⟨⟨a, c, e, _⟩, _⟩ := h
  exact ⟨a, _, c, e⟩

/-- All but the first. -/
theorem StrsD.tail {D : Nat → Prop} {w : World} {v : Value} {y : List UInt8} {r : List (List UInt8)} (h : StrsD D w v (y :: r)) :
    ∃ v', (∀ k W, (Instr.slice 22 v (some (.int k 1)) none none).run Tryz.prog W = .ok v' W) ∧ StrsD D w v' r := by
  obtain ⟨v', r1, r2, r3, hv⟩ := Row.sub (P := Tryz.prog) h.1 1 (y :: r).length (by simp) (Nat.le_refl _) 22 9 Tryz.underlying22 Tryz.sizeOf9
  have r2' : ∀ k W, (Instr.slice 22 v (some (.int k 1)) none none).run Tryz.prog W = .ok v' W := r2 rfl
  refine ⟨v', r2', ?_, ?_⟩
  · have e1 : ((strsOf (y :: r)).drop (1 * 1)).take (((y :: r).length - 1) * 1) = strsOf r := by rw [List.take_of_length_le (by simp [strsOf])]; simp [strsOf]
    rw [e1] at hv
    exact hv
  · obtain ⟨⟨⟨a, c, rfl, h1, h2, h3, h4, h5⟩, h6⟩, hD⟩ := h
    obtain ⟨b, off, rfl, _⟩ := h5 (by simp [strsOf])
    obtain ⟨lo, hlo⟩ : ∃ lo, lo = 1 := ⟨1, rfl⟩
    have e : (Instr.slice 22 (.slice (some ⟨b, off, none⟩) (y :: r).length c) (some (.int .i64 (lo : Nat))) none none).run Tryz.prog w = .ok v' w := by rw [hlo]; exact r2 rfl .i64 w
    have hs' : ∀ W, (sizeOf 9).run Tryz.prog W = .ok 1 W := Tryz.sizeOf9
    have hln : (lo : Int) ≤ (((y :: r).length : Nat) : Int) := by rw [hlo]; simp; omega
    intro b' o' n' c' e' hn'
    subst e'
    have hDb := hD b off _ _ rfl (by simp)
    generalize (y :: r).length = n at *
    simp [Instr.slice, run_underlying Tryz.underlying22, Instr.sliceBounds, run_sliceBound, sliced, hs', hln, Addr.add_lit] at e
    have e1 := e.1
    split at e1
    all_goals
      have e2 : b = b' := by simpa using congrArg (fun a : Option Addr => (a.map (·.block)).getD 0) e1
      rw [← e2]; exact hDb

/-- Between two rounds: what is told, t texts; what is left of the own ones, r. -/
structure Mid (D : Nat → Prop) (W : World) (lp : Nat) (M : List (List UInt8)) (J : Nat → World → Prop) (o r : List (List UInt8)) (t : Nat) (vr : Value) (A : World) : Prop where
  rest : Boxed A (W.heap.size + 1) 22 vr
  yld : Boxed A W.heap.size 51 (.func (.yield lp) #[] #[])
  row : StrsD D A vr r
  told : J t A
  left : M.drop t = mrg o r
  few : t ≤ M.length
  lies : Lies D W A
theorem Mid.le {D : Nat → Prop} {W : World} {lp : Nat} {M : List (List UInt8)} {J : Nat → World → Prop} {o r : List (List UInt8)} {t : Nat} {vr : Value} {A : World} (h : Mid D W lp M J o r t vr A) : W.heap.size + 2 ≤ A.heap.size := by
  have := (Array.getElem?_eq_some_iff.1 (show A.heap[W.heap.size + 1]? = some _ from h.rest)).1
  omega
/-- Through the iterator's own steps. -/
theorem Mid.steps {D : Nat → Prop} {W : World} {lp hi lo : Nat} {M : List (List UInt8)} {J : Nat → World → Prop} {o r : List (List UInt8)} {t : Nat} {vr : Value} {A B : World} (h : Mid D W lp M J o r t vr A) (hD : ∀ b, D b → b < W.heap.size)
    (hJ : ∀ k A B, J k A → Steps W.heap.size hi A B → J k B) (hs : Steps lo hi A B) (h2 : W.heap.size + 2 ≤ lo) : Mid D W lp M J o r t vr B := by
  have hz := h.le
  have hsame : Lies D A B := fun b hb => hs.same b (by have := hD b hb; omega) (by have := hD b hb; omega)
  exact ⟨(hs.same _ (by omega) (by omega)).trans h.rest, (hs.same _ (by omega) (by omega)).trans h.yld, h.row.same hsame, hJ _ _ _ h.told (hs.mono (by omega) (Nat.le_refl _)), h.left, h.few, h.lies.trans hsame⟩
theorem drop_head {α : Type} {l : List α} {t : Nat} {y : α} {r : List α} (h : l.drop t = y :: r) : l[t]? = some y ∧ l.drop (t + 1) = r ∧ t < l.length := by
  have hl : t < l.length := by
    rcases Nat.lt_or_ge t l.length with c | c
    · exact c
    · rw [List.drop_of_length_le c] at h; cases h
  rw [List.drop_eq_getElem_cons hl] at h
  injection h with h1 h2
  exact ⟨by rw [List.getElem?_eq_getElem hl, h1], h2, hl⟩

set_option maxHeartbeats 8000000 in
theorem both_tells (D : Nat → Prop) (c g : Nat) (lb : Array Value) (xs own : List (List UInt8)) (bo bt : Nat) (vo : Value) (w : World) (hbo : D bo) (hbt : D bt) (ho : w.cell? ⟨bo, 0, none⟩ = some vo) (hso : StrsD D w vo own)
    (ht : w.cell? ⟨bt, 0, none⟩ = some (.func (.func g) #[] lb)) (eg : ∀ args w, (callFunc g args).run Tryz.prog w = .ok (.enter g args) w) (hseq : TellsD Tryz.prog D c g lb encT xs w) :
    TellsD Tryz.prog D (4 + c) 114 #[.pointer (some ⟨bo, 0, none⟩), .pointer (some ⟨bt, 0, none⟩)] encT (mrg xs own) w := by
  intro lp J Jx W hW hDW hJ hJx hY h0
  obtain ⟨M, hMe⟩ : ∃ M, mrg xs own = M := ⟨_, rfl⟩
  rw [hMe] at hY ⊢
  obtain ⟨ao, no, co, rfl⟩ := slice_form hso.1
  have hsoW : StrsD D W (.slice ao no co) own := hso.same hW
  have hoW : W.cell? ⟨bo, 0, none⟩ = some (.slice ao no co) := by rw [show W.cell? ⟨bo, 0, none⟩ = w.cell? ⟨bo, 0, none⟩ from Same.cell (D := D) hW hbo]; exact ho
  have htW : W.cell? ⟨bt, 0, none⟩ = some (.func (.func g) #[] lb) := by rw [show W.cell? ⟨bt, 0, none⟩ = w.cell? ⟨bt, 0, none⟩ from Same.cell (D := D) hW hbt]; exact ht
  have oa : ∀ o, (W.alloc o).cell? ⟨bo, 0, none⟩ = some (.slice ao no co) := fun o => by simp only [World.cell?, Below.heap_alloc W o bo (hDW bo hbo)]; exact hoW
  have ta : ∀ o o', ((W.alloc o).alloc o').cell? ⟨bt, 0, none⟩ = some (.func (.func g) #[] lb) := fun o o' => by
    have h1 := hDW bt hbt
    simp only [World.cell?, Below.heap_alloc (W.alloc o) o' bt (by simp; omega), Below.heap_alloc W o bt h1]; exact htW
  obtain ⟨W2, hW2⟩ : ∃ W2, (W.alloc (.cells #[.func (.yield lp) #[] #[]] 51)).alloc (.cells #[.slice ao no co] 22) = W2 := ⟨_, rfl⟩
  have hz2 : W2.heap.size = W.heap.size + 2 := by rw [← hW2]; simp
  have st0 : Steps W.heap.size (W.heap.size + (4 + c)) W W2 := by rw [← hW2]; exact (Steps.alloc _ _ _ _).trans (Steps.alloc _ _ _ _)
  have hl2 : Lies D W W2 := fun b hb => st0.same b (hDW b hb) (by have := hDW b hb; omega)
  have b0 : Boxed W2 W.heap.size 51 (.func (.yield lp) #[] #[]) := by rw [← hW2]; exact (Boxed.new W _ _).alloc _
  have b1 : Boxed W2 (W.heap.size + 1) 22 (.slice ao no co) := by
    rw [← hW2]
    have h1 := Boxed.new (W.alloc (.cells #[.func (.yield lp) #[] #[]] 51)) 22 (.slice ao no co)
    rwa [World.size_alloc] at h1
  have tb : W2.cell? ⟨bt, 0, none⟩ = some (.func (.func g) #[] lb) := by rw [← hW2]; exact ta _ _
  have HM0 : Hid (Mid D W lp M J xs own 0 (.slice ao no co) W2) := hid ⟨b1, b0, hsoW.same hl2, hJ _ _ _ h0 st0, by rw [List.drop_zero]; exact hMe.symm, Nat.zero_le _, hl2⟩
  have HQ := hid hseq
  have HJ := hid hJ
  have HJX := hid hJx
  have HY := hid hY
  have HD := hid hDW
  have HWL := hid (Lies.trans hW hl2)
  clear hJ hJx hY h0 hso hsoW hseq hDW hW hl2 b0 b1 st0 ho ht
  refine callsIn_of_wp_marks Tryz.func114 rfl trivial ?_ rfl
  simp only [Tryz.ntmps114, List.size_toArray, List.length_cons, List.length_nil, Nat.reduceAdd, Nat.reduceSub, Array.replicate_succ, Array.replicate_zero, List.push_toArray, List.append_toArray, List.nil_append, List.cons_append]
  have mixed : Tryz.prog.follows Departure.mixedOrders = true := by kernel_rfl
  gi_wp2
  refine range_tellsD (n := 9) (gf := g) (lb := lb) rfl eg HQ.out (fun b hb => by rw [hz2]; have := HD.out b hb; omega) HWL.out rfl
    (fun k A => ∃ r t vr, Mid D W lp M J (xs.drop k) r t vr A) (fun cd _ A => cd = .ret ∧ ∃ t, t ≤ M.length ∧ Jx t A) ?hI ?hIx ?h0
    (fun x => { tmps := #[.func (.yield lp) #[] #[], .pointer (some ⟨bo, 0, none⟩), .pointer (some ⟨bt, 0, none⟩), .pointer (some ⟨W.heap.size, 0, none⟩), .pointer (some ⟨W.heap.size + 1, 0, none⟩), .string (text x), undef, undef, .slice ao no co, .func (.func g) #[] lb, .string (text x), undef, undef, undef, undef, undef, undef, undef, undef, undef, undef, undef, undef, undef, undef, undef, undef, undef, undef, undef, undef, undef, undef, undef, undef, undef, undef, undef, undef, undef, undef, undef, undef, undef], defers := [] })
    ?assign ?body ?done ?stop
  case hI =>
    rintro k A B ⟨r, t, vr, hm⟩ hs
    exact ⟨r, t, vr, hm.steps (hi := W.heap.size + (4 + c)) (lo := W.heap.size + 2) HD.out HJ.out (hs.mono (by omega) (by omega)) (Nat.le_refl _)⟩
  case hIx =>
    rintro cd k A B ⟨h1, t, ht, hx⟩ hs
    exact ⟨h1, t, ht, HJX.out _ _ _ hx (hs.mono (by omega) (by omega))⟩
  case h0 => exact ⟨own, 0, _, HM0.out⟩
  case assign =>
    intro l2 x A K hK
    gi_wp2
    exact hK
  case body =>
    rintro l2 k x A hx hsA ⟨r, t, vr, hm⟩
    have hdk : xs.drop k = x :: xs.drop (k + 1) := by
      obtain ⟨hl, rfl⟩ := List.getElem?_eq_some_iff.1 hx
      exact List.drop_eq_getElem_cons hl
    rw [hdk] at hm
    have HM := hid hm
    clear hm hdk hx
    gi_wp2
    gi_loopg [12] r.length (fun kx s12 wr => ∃ r t vr, r.length ≤ kx ∧ Hid (Mid D W lp M J (x :: xs.drop (k + 1)) r t vr wr ∧ Lies (fun i => D i ∨ (W2.heap.size ≤ i ∧ i < W2.heap.size + 2 + c)) A wr ∧ A.heap.size ≤ wr.heap.size))
    case atStart => exact ⟨r, t, vr, Nat.le_refl _, hid ⟨HM.out, fun _ _ => rfl, Nat.le_refl _⟩⟩
    case round =>
      obtain ⟨r, t, vr, hg, I⟩ := hrel
      have hlen := fun X => I.out.1.row.1.len (P := Tryz.prog) 22 3 9 Tryz.underlying22 X
      have hcr := I.out.1.rest.cell
      have hcy := I.out.1.yld.cell
      cases r with
      | nil =>
        have hlen0 : ∀ X, (Builtin.len_ #[22] 3 #[vr]).run Tryz.prog X = .ok (.int .i64 0) X := hlen
        have hd := I.out.1.left
        rw [mrg_none] at hd
        obtain ⟨hd1, hd2, hd3⟩ := drop_head hd
        obtain ⟨fn, tmps, assign, body, hy, hR⟩ := yield_any (m' := 6) (HY.out t x wr hd1 (by have := I.out.2.2; omega) I.out.1.told)
        have e1 : encT x = .string (text x) := rfl
        rw [e1] at hy
        clear hlen hd hd1
        have HR := hid hR
        clear hR
        gi_wp2
        refine HR.out.mono ?_
        rintro e W3 ⟨bb, rfl, hl3, hz3, hJ3⟩
        have K3 := hid (And.intro hl3 hJ3)
        have Z3 := hid (Nat.le_trans I.out.2.2 hz3)
        clear hl3 hJ3 hz3
        cases bb
        · gi_wp2
          exact ⟨I.out.2.1.trans fun i hi => K3.out.1 i (hi.imp id fun h => by omega), Z3.out, rfl, t + 1, hd3, by simpa using K3.out.2⟩
        · gi_wp2
          have hsame : Lies D wr W3 := fun i hi => K3.out.1 i (.inl hi)
          exact ⟨I.out.2.1.trans fun i hi => K3.out.1 i (hi.imp id fun h => by omega), Z3.out, [], t + 1, vr, ⟨(K3.out.1 _ (.inr (by omega))).trans I.out.1.rest, (K3.out.1 _ (.inr (by omega))).trans I.out.1.yld, I.out.1.row.same hsame, by simpa using K3.out.2, hd2, hd3, I.out.1.lies.trans hsame⟩⟩
      | cons y r =>
        have hle := I.out.1.row.1.le
        obtain ⟨b2, o2, hix, hcl⟩ := I.out.1.row.1.at (P := Tryz.prog) 0 (by simp) 22 9 Tryz.underlying22 Tryz.sizeOf9
        have hix' : ∀ kk X, (Instr.indexAt 22 vr (.int kk 0)).run Tryz.prog X = .ok (.pointer (some ⟨b2, o2, none⟩)) X := hix
        have hcl' : wr.cell? ⟨b2, o2, none⟩ = some (.string (text y)) := hcl
        obtain ⟨N, hN⟩ : ∃ N, (y :: r).length = N := ⟨_, rfl⟩
        have hNr : N = r.length + 1 := by rw [← hN]; simp
        have hN0 : (0 : Int) < (N : Int) := by omega
        rw [hN] at hlen
        have htl := tless y x
        have HNR := hid hNr
        clear hix hcl hN hNr
        cases hp : Op.bytesLess y x
        · rw [hp] at htl
          have hd := I.out.1.left
          rw [mrg_ge hp] at hd
          obtain ⟨hd1, hd2, hd3⟩ := drop_head hd
          obtain ⟨fn, tmps, assign, body, hy, hR⟩ := yield_any (m' := 6) (HY.out t x wr hd1 (by have := I.out.2.2; omega) I.out.1.told)
          have e1 : encT x = .string (text x) := rfl
          rw [e1] at hy
          clear hd hd1 hp
          have HR := hid hR
          clear hR
          gi_wp2
          refine HR.out.mono ?_
          rintro e W3 ⟨bb, rfl, hl3, hz3, hJ3⟩
          have K3 := hid (And.intro hl3 hJ3)
          have Z3 := hid (Nat.le_trans I.out.2.2 hz3)
          clear hl3 hJ3 hz3
          cases bb
          · gi_wp2
            exact ⟨I.out.2.1.trans fun i hi => K3.out.1 i (hi.imp id fun h => by omega), Z3.out, rfl, t + 1, hd3, by simpa using K3.out.2⟩
          · gi_wp2
            have hsame : Lies D wr W3 := fun i hi => K3.out.1 i (.inl hi)
            exact ⟨I.out.2.1.trans fun i hi => K3.out.1 i (hi.imp id fun h => by omega), Z3.out, (y :: r), t + 1, vr, ⟨(K3.out.1 _ (.inr (by omega))).trans I.out.1.rest, (K3.out.1 _ (.inr (by omega))).trans I.out.1.yld, I.out.1.row.same hsame, by simpa using K3.out.2, hd2, hd3, I.out.1.lies.trans hsame⟩⟩
        · rw [hp] at htl
          have hd := I.out.1.left
          rw [mrg_lt hp] at hd
          obtain ⟨hd1, hd2, hd3⟩ := drop_head hd
          have HY2 := hid (fun q => yield_any (m' := 6) (HY.out t y (wr.drewN q) hd1 (by have := I.out.2.2; show _ ≤ wr.heap.size; omega) (HJ.out _ _ _ I.out.1.told (Steps.drewN _ _ _ q))))
          have HDD := hid (And.intro hd2 hd3)
          obtain ⟨fn, tmps, assign, body, hy, hR⟩ := HY2.out 1
          have e1 : encT y = .string (text y) := rfl
          rw [e1] at hy
          rw [show wr.drewN 1 = wr.drew from rfl] at hy hR
          have HR := hid hR
          clear hd hd1 hd2 hd3 hp hR
          gi_wp2
          gi_region_with_o ((refine HR.out.mono ?_; rintro e W3 ⟨bb, rfl, hl3, hz3, hJ3⟩; have K3 := hid (And.intro hl3 hJ3); have Z3 := hid (Nat.le_trans I.out.2.2 hz3); clear hl3 hJ3 hz3))
          all_goals
            cases bb
            · gi_wp2
              exact ⟨I.out.2.1.trans fun i hi => K3.out.1 i (hi.imp id fun h => by omega), Z3.out, rfl, t + 1, HDD.out.2, by simpa using K3.out.2⟩
            · have hsame : Lies D wr W3 := fun i hi => K3.out.1 i (.inl hi)
              obtain ⟨v3, r3, hv3⟩ := StrsD.tail (I.out.1.row.same hsame)
              obtain ⟨a3, n3, c3, rfl⟩ := slice_form hv3.1
              have b3 : Boxed W3 (W.heap.size + 1) 22 vr := (K3.out.1 _ (.inr (by omega))).trans I.out.1.rest
              have y3 : Boxed W3 W.heap.size 51 (.func (.yield lp) #[] #[]) := (K3.out.1 _ (.inr (by omega))).trans I.out.1.yld
              have hc3 := b3.cell
              have hf3 := b3.frozen
              have B3 := hid b3
              have Y3 := hid y3
              have V3 := hid hv3
              have HSM := hid hsame
              clear b3 y3 hv3 hsame
              gi_wp2
              go_roundg r.length
              case measure => have := HNR.out; simp at hg; omega
              case rel =>
                have hss : Same D W3 (W3.setCell ⟨W.heap.size + 1, 0, none⟩ (.slice a3 n3 c3)) := fun i hi => Below.heap_setCell W3 _ _ i (by have := HD.out i hi; simp; omega)
                refine ⟨r, t + 1, _, Nat.le_refl _, hid ⟨⟨B3.out.set _, Y3.out.other (by omega) _, V3.out.same hss, HJ.out _ _ _ (by simpa using K3.out.2) (Steps.setCell _ _ _ _ _ (by simp) (by simp; omega)), HDD.out.1, HDD.out.2, (I.out.1.lies.trans HSM.out).trans hss⟩, fun i hi => ?_, (by simp; exact Z3.out)⟩⟩
                rw [Below.heap_setCell W3 _ _ i (by rcases hi with hi | hi; have := HD.out i hi; simp; omega; simp; omega), K3.out.1 i (hi.imp id fun h => by omega)]
                exact I.out.2.1 i hi
  case done =>
    rintro A hsA ⟨r, t, vr, hm⟩ hK
    rw [List.drop_of_length_le (Nat.le_refl _)] at hm
    rw [hz2] at hK ⊢
    have hlen := fun X => hm.row.1.len (P := Tryz.prog) 22 3 9 Tryz.underlying22 X
    have hle := hm.row.1.le
    have hcr := hm.rest.cell
    have hcy := hm.yld.cell
    have HM := hid hm
    have HK := hid hK
    have hleft : M.drop t = r := hm.left
    have hlm : t + r.length = M.length := by rw [← hleft, List.length_drop]; have := hm.few; omega
    have HLM := hid hlm
    have HLF := hid hleft
    clear hm hK hleft hlm
    gi_wp2
    gi_loopg [35] r.length (fun kx s35 wr => ∃ i : Nat, s35 = .int .i64 i ∧ i ≤ r.length ∧ r.length - i ≤ kx ∧ Hid (J (t + i) wr ∧ Lies (fun i => D i ∨ (W.heap.size ≤ i ∧ i < W.heap.size + (4 + c))) A wr ∧ A.heap.size ≤ wr.heap.size))
    case atStart => exact ⟨0, rfl, Nat.zero_le _, by omega, hid ⟨HM.out.told, fun _ _ => rfl, Nat.le_refl _⟩⟩
    case round =>
      obtain ⟨i, rfl, hi, hg, I⟩ := hrel
      have hK3 : wr.heap[W.heap.size + 2]? = some (.deferred (some [])) := (I.out.2.1 _ (.inr (by omega))).trans HK.out
      by_cases hil : i < r.length
      · have hs := (HM.out.row.same (W := wr) fun x hx => I.out.2.1 x (.inl hx)).1
        obtain ⟨b2, o2, hix, hcl⟩ := hs.at (P := Tryz.prog) i hil 22 9 Tryz.underlying22 Tryz.sizeOf9
        have hcy3 : wr.cell? ⟨W.heap.size, 0, none⟩ = some (.func (.yield lp) #[] #[]) := Boxed.cell (show Boxed wr W.heap.size 51 (.func (.yield lp) #[] #[]) from (I.out.2.1 W.heap.size (.inr (by omega))).trans HM.out.yld)
        have hme : M[t + i]? = some r[i] := by
          rw [← List.getElem?_drop, HLF.out, List.getElem?_eq_getElem hil]
        obtain ⟨fn, tmps, assign, body, hy, hR⟩ := yield_any (m' := 8) (HY.out (t + i) r[i] wr hme (by have := I.out.2.2; omega) I.out.1)
        have HR := hid hR
        have e1 : encT r[i] = .string (text r[i]) := rfl
        rw [e1] at hy
        have HK3 := hid hK3
        clear hs hR hme hK3
        generalize text r[i] = ty at *
        gi_wp2
        refine HR.out.mono ?_
        rintro e W3 ⟨bb, rfl, hl3, hz3, hJ3⟩
        have K3 := hid (And.intro hl3 hJ3)
        have Z3 := hid (Nat.le_trans I.out.2.2 hz3)
        clear hl3 hJ3 hz3
        cases bb
        · gi_wp2
          refine ⟨by simp, .inl ⟨_, _, rfl, run_takeDeferred ((K3.out.1 (W.heap.size + 2) (.inr (by omega))).trans HK3.out), ?_⟩⟩
          exact ⟨_, results_none rfl _ _ _, ⟨_, rfl⟩, (by simp [World.putObj]; have := Z3.out; omega), .inr ⟨t + i + 1, by have := HLM.out; omega, HJX.out _ _ _ (by simpa using K3.out.2) (Steps.putObj _ _ _ _ _ (by omega) (by omega))⟩⟩
        · gi_wp2
          go_roundg (r.length - (i + 1))
          case measure => omega
          case rel => exact ⟨i + 1, by go_num, by omega, Nat.le_refl _, hid ⟨by rw [← Nat.add_assoc]; simpa using K3.out.2, I.out.2.1.trans K3.out.1, Z3.out⟩⟩
      · have e : i = r.length := by omega
        subst e
        have HE := I
        have HK3 := hid hK3
        clear I hK3
        gi_wp2
        refine ⟨by simp, .inl ⟨_, _, rfl, run_takeDeferred HK3.out, ?_⟩⟩
        exact ⟨_, results_none rfl _ _ _, ⟨_, rfl⟩, (by simp [World.putObj]; have := HE.out.2.2; omega), .inl (by rw [← HLM.out]; exact HJ.out _ _ _ HE.out.1 (Steps.putObj _ _ _ _ _ (by omega) (by omega)))⟩
  case stop =>
    rintro cd k A hk hsA ⟨rfl, t, ht, hx⟩ hK
    gi_wp2
    refine ⟨by simp, .inl ⟨_, _, rfl, run_takeDeferred hK, ?_⟩⟩
    exact ⟨_, results_none rfl _ _ _, ⟨_, rfl⟩, (by simp [World.putObj]; omega), .inr ⟨t, ht, HJX.out _ _ _ hx (Steps.putObj _ _ _ _ _ (by omega) (by omega))⟩⟩
end Go.Proofs.YtlhhjocfbafoeaaGreatDoor.Sc
namespace Go.Proofs.YtlhhjocfbafoeaaGreatDoor.Sc
open Go Go.Proofs.YtlhhjocfbafoeaaGreatDoor Go.Proofs.YtlhhjocfbafoeaaGreatDoor.Utf Go.Proofs.YtlhhjocfbafoeaaGreatDoor.Names Go.RowKit Go.Shelf
set_option maxRecDepth 100000
attribute [local go_sem] Oper.semAt_some

/-- What a row that is gathered looks like between two rounds: k of the texts, in a block at hi or above. -/
structure Gath (w0 : World) (B hi : Nat) (xs : List (List UInt8)) (k : Nat) (v : Value) (A : World) : Prop where
  box : Boxed A B 22 v
  row : A.ownsRow hi 9 1 v k (strsOf (xs.take k))
  le : k ≤ xs.length
  bel : Below w0.heap.size w0 A
theorem Gath.lt {w0 : World} {B hi k : Nat} {xs : List (List UInt8)} {v : Value} {A : World} (h : Gath w0 B hi xs k v A) : B < A.heap.size := (Array.getElem?_eq_some_iff.1 (show A.heap[B]? = some _ from h.box)).1
theorem Gath.steps {w0 : World} {B lo hi k : Nat} {xs : List (List UInt8)} {v : Value} {A A' : World} (h : Gath w0 B hi xs k v A) (hs : Steps lo hi A A') (hB : B < lo) (h0 : w0.heap.size ≤ B) : Gath w0 B hi xs k v A' := by
  have hlt := h.lt
  refine ⟨(hs.same _ hlt (by omega)).trans h.box, ?_, h.le, hs.below h.bel (by omega) h.bel.size⟩
  obtain ⟨h1, h2⟩ := h.row
  refine ⟨h1, ?_⟩
  rcases h2 with h2 | ⟨g, cap, cur, e, hg, hb, r⟩
  · exact .inl h2
  · exact .inr ⟨g, cap, cur, e, hg, (hs.same g (Array.getElem?_eq_some_iff.1 hb).1 (by omega)).trans hb, r⟩
/-- One more. -/
theorem Gath.push {w0 A w1 : World} {B hi k : Nat} {xs : List (List UInt8)} {v v' : Value} {x : List UInt8} {tmp : Obj} (h : Gath w0 B hi xs k v A) (hx : xs[k]? = some x) (hhi : hi ≤ A.heap.size) (hB : B < hi) (h0 : w0.heap.size ≤ B)
    (hown' : w1.ownsRow hi 9 1 v' (k + 1) (strsOf (xs.take k) ++ [.string (text x)])) (hgrow : (A.alloc tmp).grownBy w1 v.ownBlock) :
    Boxed w1 B 22 v ∧ Gath w0 B hi xs (k + 1) v' (w1.setCell ⟨B, 0, none⟩ v') ∧ A.heap.size ≤ (w1.setCell ⟨B, 0, none⟩ v').heap.size ∧ ∀ b, b < hi → b ≠ B → (w1.setCell ⟨B, 0, none⟩ v').heap[b]? = A.heap[b]? := by
  have hlt := h.lt
  have hkl := (List.getElem?_eq_some_iff.1 hx).1
  have far : ∀ b, b < hi → some b ≠ v.ownBlock := fun b hb e => by have := (h.row.lt b e.symm).1; omega
  have hv1 : Boxed w1 B 22 v := (hgrow.block B (by simp; omega) (far B hB)).trans (h.box.alloc tmp)
  have hsz : A.heap.size ≤ w1.heap.size := by have := hgrow.size; simp at this; omega
  have same : ∀ b, b < hi → b ≠ B → (w1.setCell ⟨B, 0, none⟩ v').heap[b]? = A.heap[b]? := fun b hb hne =>
    (Below.heap_setCell w1 ⟨B, 0, none⟩ _ b (by simpa using hne)).trans ((hgrow.block b (by simp; omega) (far b hb)).trans (Below.heap_alloc A tmp b (by omega)))
  refine ⟨hv1, ⟨hv1.set v', ?_, hkl, ?_⟩, by simpa using hsz, same⟩
  · rw [show strsOf (xs.take (k + 1)) = strsOf (xs.take k) ++ [.string (text x)] by rw [List.take_add_one, hx, strsOf_append]; rfl]
    exact hown'.kept (grownBy_setCell' w1 _ _) (.inr fun e => by have := (hown'.lt B e).1; omega)
  · have hb1 : Below w0.heap.size w0 w1 := (h.bel.alloc h.bel.size tmp).grown hgrow (by have := h.bel.size; simp; omega) (fun j e => by have := (h.row.lt _ e).1; omega)
    exact hb1.setCell (p := ⟨B, 0, none⟩) h0 v'
theorem infoT : (Tryz.prog.info? 9).map (fun i => (i.zero, i.size, i.bytes)) = some (some (.string ByteArray.empty), 1, 16) := by kernel_rfl

set_option maxHeartbeats 4000000 in
theorem AppendSeq_in (D : Nat → Prop) (g c : Nat) (lb : Array Value) (xs : List (List UInt8)) (w : World) (hD : ∀ b, D b → b < w.heap.size) (eg : ∀ args w, (callFunc g args).run Tryz.prog w = .ok (.enter g args) w)
    (hseq : TellsD Tryz.prog D c g lb encT xs w) (hl : xs.length ≤ 1000000) :
    CallsIn Fence.wide 9 Tryz.prog 92 #[.slice none 0 0, .func (.func g) #[] lb] w fun e w' => ∃ v, e = .returned v ∧ OwnS w.heap.size w' v xs ∧ Below w.heap.size w w' := by
  obtain ⟨i0, hi, hz0, hz1, hz2⟩ := info_parts infoT
  have underS := Tryz.underlying22
  refine callsIn_of_wp_marks Tryz.func92 rfl trivial ?_ rfl
  simp only [Tryz.ntmps92, List.size_toArray, List.length_cons, List.length_nil, Nat.reduceAdd, Nat.reduceSub, Array.replicate_succ, Array.replicate_zero, List.push_toArray, List.append_toArray, List.nil_append, List.cons_append]
  obtain ⟨W1, hW1⟩ : ∃ W1, w.alloc (.cells #[.slice none 0 0] 22) = W1 := ⟨_, rfl⟩
  have hz : W1.heap.size = w.heap.size + 1 := by rw [← hW1]; simp
  have hb1 : Below w.heap.size w W1 := by rw [← hW1]; exact (Below.refl _ w).alloc (Nat.le_refl _) _
  have bx : Boxed W1 w.heap.size 22 (.slice none 0 0) := by rw [← hW1]; exact Boxed.new w _ _
  gi_wp2
  refine range_tellsD (n := 9) (gf := g) (lb := lb) rfl eg hseq (fun b hb => by rw [hz]; have := hD b hb; omega) (fun b hb => hb1.block b (hD b hb)) rfl
    (fun k A => ∃ v, Gath w w.heap.size (w.heap.size + 1 + 2 + c) xs k v A) (fun _ _ _ => False) ?hI ?hIx ?h0
    (fun x => { tmps := #[.slice none 0 0, .func (.func g) #[] lb, .pointer (some ⟨w.heap.size, 0, none⟩), undef, .slice none 0 0, .string (text x), .func (.func g) #[] lb, .string (text x), undef, undef, undef, undef, undef], defers := [] })
    ?assign ?body ?done ?stop
  case hI =>
    rintro k A B ⟨v, h⟩ hs
    exact ⟨v, h.steps (lo := w.heap.size + 1) (hs.mono (by omega) (by omega)) (by omega) (Nat.le_refl _)⟩
  case hIx => exact fun _ _ _ _ h _ => h
  case h0 => exact ⟨_, bx, World.ownsRow_nil _ _ _ _, Nat.zero_le _, hb1⟩
  case assign =>
    intro l x A K hK
    gi_wp2
    exact hK
  case body =>
    rintro l k x A hx hsA ⟨v, hG⟩
    have hkl := (List.getElem?_eq_some_iff.1 hx).1
    have hcb := hG.box.cell
    have hrow := hG.row
    have HG := hid hG
    have HX := hid hx
    have hkk : k ≤ 1000000 := by omega
    have hsA2 : w.heap.size + 1 + 2 + c ≤ A.heap.size := by omega
    clear hG hx
    gi_wp2_with (gi_at_builtin; refine wpListIn_append_own _ rfl _ _ 22 rfl (w.heap.size + 1 + 2 + c) 9 i0 (.string ByteArray.empty) 1 16 underS hi hz0 hz1 hz2 rfl (by decide) _ _ _ rfl (hrow.alloc _) ⟨A.heap.size, 0, none⟩ 1 1 [.string (text x)] rfl rfl (cell_one_new _ _ _) (by simp [Value.oneCell']) (by unfold maxLen; omega) (by omega) (by simp; omega) ?_; intro v' w4 hown' hgrow _; obtain ⟨g', cap', rfl⟩ := ownsRow_succ hown'; obtain ⟨q1, q2, q3, q4⟩ := HG.out.push HX.out hsA2 (by omega) (Nat.le_refl _) hown' hgrow; have hc4 := q1.cell; have hf4 := q1.frozen)
    refine ⟨fun b hb => ?_, q3, _, q2⟩
    rcases hb with hb | hb
    · have := hD b hb
      exact q4 b (by omega) (by omega)
    · exact q4 b (by omega) (by omega)
  case done =>
    rintro A hsA ⟨v, hG⟩ hK
    have hcb := hG.box.cell
    gi_wp2
    refine ⟨by simp, .inl ⟨_, _, rfl, run_takeDeferred hK, ?_⟩⟩
    have st : Steps (w.heap.size + 1) (w.heap.size + 1 + 2 + c) A (A.putObj W1.heap.size (.deferred none)) := Steps.putObj _ _ _ _ _ (by omega) (by omega)
    rw [hz] at st
    have h2 := hG.steps st (by omega) (Nat.le_refl _)
    refine ⟨_, results_tmp rfl _ _ _, v, rfl, ?_, (by rw [hz]; exact h2.bel)⟩
    have hr := h2.row
    rw [List.take_length] at hr
    rw [hz]
    exact OwnS.base (B := w.heap.size + 1 + 2 + c) hr (by omega)
  case stop =>
    rintro cd k A hk hsA h hK
    exact h.elim
theorem AppendSeq_any (D : Nat → Prop) (g c : Nat) (lb : Array Value) (xs : List (List UInt8)) (w : World) (hD : ∀ b, D b → b < w.heap.size) (eg : ∀ args w, (callFunc g args).run Tryz.prog w = .ok (.enter g args) w)
    (hseq : TellsD Tryz.prog D c g lb encT xs w) (hl : xs.length ≤ 1000000) :
    Calls Tryz.prog 92 #[.slice none 0 0, .func (.func g) #[] lb] w fun e w' => ∃ v, e = .returned v ∧ OwnS w.heap.size w' v xs ∧ Below w.heap.size w w' := callsIn_wide.1 (AppendSeq_in D g c lb xs w hD eg hseq hl)
theorem Collect_any (D : Nat → Prop) (g c : Nat) (lb : Array Value) (xs : List (List UInt8)) (w : World) (hD : ∀ b, D b → b < w.heap.size) (eg : ∀ args w, (callFunc g args).run Tryz.prog w = .ok (.enter g args) w)
    (hseq : TellsD Tryz.prog D c g lb encT xs w) (hl : xs.length ≤ 1000000) :
    Calls Tryz.prog 63 #[.func (.func g) #[] lb] w fun e w' => ∃ v, e = .returned v ∧ OwnS w.heap.size w' v xs ∧ Below w.heap.size w w' := by
  have H := hid (AppendSeq_any D g c lb xs w hD eg hseq hl)
  clear hseq hD eg
  go_enter Tryz.func63, Tryz.ntmps63
  go_wp2_with fail
  refine H.out.mono ?_
  rintro e w1 ⟨v, rfl, ho, hb⟩
  have HO := hid ho
  clear ho
  go_wp2
  go_ret
  exact ⟨v, rfl, HO.out, hb⟩

theorem Values_any (a : Option Addr) (n c : Nat) (w : World) :
    Calls Tryz.prog 87 #[.slice a n c] w fun e w' => e = .returned (.func (.func 115) #[] #[.pointer (some ⟨w.heap.size, 0, none⟩)]) ∧ w' = w.alloc (.cells #[.slice a n c] 22) := by
  have hmf : ∀ (fn : Fn) (first cap : Array Value) (w : World), (Instr.makeFunc fn first cap).run Tryz.prog w = .ok (.func fn first cap) w := fun _ _ _ _ => rfl
  go_enter Tryz.func87, Tryz.ntmps87
  go_wp2
  go_ret
  exact ⟨rfl, rfl⟩
theorem both_any (g : Nat) (lb : Array Value) (a : Option Addr) (n c : Nat) (w : World) :
    Calls Tryz.prog 86 #[.func (.func g) #[] lb, .slice a n c] w fun e w' => e = .returned (.func (.func 114) #[] #[.pointer (some ⟨w.heap.size + 1, 0, none⟩), .pointer (some ⟨w.heap.size, 0, none⟩)]) ∧
      w' = (w.alloc (.cells #[.func (.func g) #[] lb] 62)).alloc (.cells #[.slice a n c] 22) := by
  have hmf : ∀ (fn : Fn) (first cap : Array Value) (w : World), (Instr.makeFunc fn first cap).run Tryz.prog w = .ok (.func fn first cap) w := fun _ _ _ _ => rfl
  go_enter Tryz.func86, Tryz.ntmps86
  go_wp2
  go_ret
  exact ⟨rfl, rfl⟩
theorem tells_mono {D E : Nat → Prop} {c g : Nat} {lb : Array Value} {xs : List (List UInt8)} {w w' : World} (h : TellsD Tryz.prog D c g lb encT xs w) (hE : ∀ b, D b → E b) (hs : Lies D w w') : TellsD Tryz.prog E c g lb encT xs w' := by
  intro l J Jx W hW hEW hJ hJx hY h0
  refine h l J Jx W (hs.trans (hW.mono hE)) (fun b hb => hEW b (hE b hb)) hJ hJx (fun k x W1 hx hz hj => ?_) h0
  refine (hY k x W1 hx hz hj).mono ?_
  rintro e W' ⟨b, he, hl, r⟩
  exact ⟨b, he, hl.mono fun i hi => hi.imp (hE i) id, r⟩
/-- What both makes tells both. -/
theorem both_made {D : Nat → Prop} {c g : Nat} {lb : Array Value} {xs own : List (List UInt8)} {a : Option Addr} {n cp : Nat} {w w2 : World} (hw2 : w2 = (w.alloc (.cells #[.func (.func g) #[] lb] 62)).alloc (.cells #[.slice a n cp] 22))
    (hD : ∀ b, D b → b < w.heap.size) (eg : ∀ args w, (callFunc g args).run Tryz.prog w = .ok (.enter g args) w) (hseq : TellsD Tryz.prog D c g lb encT xs w) (ho : StrsD D w (.slice a n cp) own) :
    TellsD Tryz.prog (fun b => D b ∨ b = w.heap.size ∨ b = w.heap.size + 1) (4 + c) 114 #[.pointer (some ⟨w.heap.size + 1, 0, none⟩), .pointer (some ⟨w.heap.size, 0, none⟩)] encT (mrg xs own) w2 := by
  have hlt : ∀ b, b < w.heap.size → w2.heap[b]? = w.heap[b]? := fun b hb => by
    rw [hw2, Below.heap_alloc _ _ _ (by simp; omega), Below.heap_alloc _ _ _ hb]
  have k0 : w2.heap[w.heap.size]? = some (.cells #[.func (.func g) #[] lb] 62 (0, 0)) := by
    rw [hw2, Below.heap_alloc _ _ _ (by simp)]; exact World.alloc_heap_new w _
  have k1 : w2.heap[w.heap.size + 1]? = some (.cells #[.slice a n cp] 22 (0, 0)) := by
    rw [hw2]
    have := World.alloc_heap_new (w.alloc (.cells #[.func (.func g) #[] lb] 62)) (.cells #[.slice a n cp] 22)
    rwa [World.size_alloc] at this
  refine both_tells _ c g lb xs own (w.heap.size + 1) w.heap.size (.slice a n cp) w2 (.inr (.inr rfl)) (.inr (.inl rfl)) (by rw [Lib.cell_of_heap k1]; rfl) ((ho.same fun b hb => hlt b (hD b hb)).mono fun b hb => .inl hb) (by rw [Lib.cell_of_heap k0]; rfl) eg
    (tells_mono hseq (fun b hb => .inl hb) fun b hb => hlt b (hD b hb))
end Go.Proofs.YtlhhjocfbafoeaaGreatDoor.Sc
namespace Go.Proofs.YtlhhjocfbafoeaaGreatDoor.Sc
open Go Go.Proofs.YtlhhjocfbafoeaaGreatDoor Go.Proofs.YtlhhjocfbafoeaaGreatDoor.Utf Go.Proofs.YtlhhjocfbafoeaaGreatDoor.Names Go.RowKit
set_option maxRecDepth 100000

/-- One level taken in: its names and those that came, rising. -/
theorem take_in (a0 : Option Addr) (n0 c0 : Nat) (l : List (List UInt8)) (a1 : Option Addr) (n1 c1 : Nat) (cur : List (List UInt8)) (X1 X2 : World) (b : Nat) (hb : b < X1.heap.size) (hc : X1.cell? ⟨b, 0, none⟩ = some (.slice a0 n0 c0)) (h0 : Strs X1 (.slice a0 n0 c0) l) (h1 : Strs X1 (.slice a1 n1 c1) cur)
    (h2 : X2 = (X1.alloc (.cells #[.func (.func 115) #[] #[.pointer (some ⟨b, 0, none⟩)]] 62)).alloc (.cells #[.slice a1 n1 c1] 22)) (hl : l.length + cur.length ≤ 1000000) :
    Calls Tryz.prog 63 #[.func (.func 114) #[] #[.pointer (some ⟨X1.heap.size + 1, 0, none⟩), .pointer (some ⟨X1.heap.size, 0, none⟩)]] X2 fun e w' => ∃ v, e = .returned v ∧ OwnS X2.heap.size w' v (mrg l cur) ∧ Below X2.heap.size X2 w' := by
  have hz : X2.heap.size = X1.heap.size + 2 := by rw [h2]; simp
  have t1 := values_tells (· < X1.heap.size) b (.slice a0 n0 c0) l X1 hb hc (StrsD.lt (D := fun _ => True) h0)
  have t2 := both_made h2 (fun b hb => hb) (enters_of Tryz.func115 (by kernel_rfl) rfl) t1 (StrsD.lt (D := fun _ => True) h1)
  refine Collect_any _ _ _ _ _ X2 (fun b hb => ?_) (enters_of Tryz.func114 (by kernel_rfl) rfl) t2 (by rw [(mrg_perm l cur).length_eq, List.length_append]; exact hl)
  rcases hb with hb | hb | hb
  · have : b < X1.heap.size := hb
    omega
  · omega
  · omega

set_option maxHeartbeats 4000000 in
theorem within_any (p : Option Addr) (ls : List (List (List UInt8))) (v : Value) (own : List (List UInt8)) (w : World) (hs : IsSc (· < w.heap.size) w p ls) (hr : ∀ l ∈ ls, Rise l) (hnd : (ls.flatten ++ own).Nodup) (hfew : (ls.flatten ++ own).length ≤ 4096) (ho : Rise own) (hv : Strs w v own) : WithinOk p ls v own w := by
  have hlen := fun W => hv.len (P := Tryz.prog) 22 3 9 Tryz.underlying22 W
  have HL := hid (Len_any p ls w hs)
  have S := hid hs
  have R := hid hr
  have ND := hid hnd
  have V := hid hv
  have O := hid ho
  have hf2 : ls.flatten.length + own.length ≤ 4096 := by rw [← List.length_append]; exact hfew
  have HF := hid (show (ls.flatten ++ own).length = ls.flatten.length + own.length from List.length_append)
  unfold WithinOk
  clear hs hr hnd hv ho hfew
  obtain ⟨C, hC⟩ : ∃ C, ls.flatten.length = C := ⟨_, rfl⟩
  rw [hC] at HL hf2 HF
  have HC := hid hC
  clear hC
  go_enter Tryz.func53, Tryz.ntmps53
  go_wp2_with fail
  refine HL.out.mono ?_
  rintro e w1 ⟨rfl, hw1⟩
  subst hw1
  go_wp2_with fail
  go_loopg [0, 1] ls.length (fun kx s0 s1 wr => ∃ (k : Nat) (pp : Option Addr) (cur : List (List UInt8)), s0 = .pointer pp ∧ k ≤ ls.length ∧ ls.length - k ≤ kx ∧ Hid (IsSc (· < w1.heap.size) w1 pp (ls.drop k) ∧ Strs wr s1 cur ∧ Rise cur ∧ ((ls.drop k).flatten ++ cur).Perm (ls.flatten ++ own) ∧ Below w1.heap.size w1 wr))
  case atStart => exact ⟨0, p, own, rfl, Nat.zero_le _, by omega, hid ⟨by rw [List.drop_zero]; exact S.out, V.out, O.out, by rw [List.drop_zero], Below.refl _ _⟩⟩
  case round =>
    obtain ⟨k, pp, cur, rfl, hk, hg, I⟩ := hrel
    have hpl : (ls.drop k).flatten.length + cur.length = C + own.length := by
      have := I.out.2.2.2.1.length_eq
      rw [List.length_append, HF.out] at this; exact this
    have hcl : cur.length ≤ 4096 := by omega
    obtain ⟨a1, n1, c1, rfl⟩ := slice_form I.out.2.1
    have hlc := fun W => I.out.2.1.len (P := Tryz.prog) 22 3 9 Tryz.underlying22 W
    -- the scope that is made in the end
    have fin : ∀ w2 v', Hid (OwnS wr.heap.size w2 v' cur ∧ Below wr.heap.size wr w2) → ∀ a n c, v' = .slice a n c →
        Hid ((∃ ls', IsSc (· < (w2.alloc (.cells #[.pointer pp, v', .int .i64 ((C : Int) + (own.length : Int))] 98)).heap.size) (w2.alloc (.cells #[.pointer pp, v', .int .i64 ((C : Int) + (own.length : Int))] 98)) (some ⟨w2.heap.size, 0, none⟩) ls' ∧ (∀ l ∈ ls', Rise l) ∧ ls'.flatten.Perm (ls.flatten ++ own)) ∧
          Below w1.heap.size w1 (w2.alloc (.cells #[.pointer pp, v', .int .i64 ((C : Int) + (own.length : Int))] 98))) := fun w2 v' h a n c e => by
      have hb2 : Below w1.heap.size w1 w2 := I.out.2.2.2.2.trans (h.out.2.mono I.out.2.2.2.2.size)
      refine hid ⟨⟨cur :: ls.drop k, mk_sc (I.out.1.later hb2) (h.out.1.strs (by omega)) ?_, fun l hl => ?_, ?_⟩, hb2.alloc hb2.size _⟩
      · rw [List.flatten_cons, List.length_append]; omega
      · rcases List.mem_cons.1 hl with rfl | hl
        · exact I.out.2.2.1
        · exact R.out l (List.mem_of_mem_drop hl)
      · rw [List.flatten_cons]
        exact List.perm_append_comm.trans I.out.2.2.2.1
    have HFIN := hid fin
    have HCL := hid (Clone_any (.slice a1 n1 c1) cur wr I.out.2.1 (by omega))
    clear fin
    by_cases hl : k < ls.length
    · have hI := I.out.1
      have hd := List.drop_eq_getElem_cons hl
      rw [hd] at hI
      obtain ⟨b, po, v0, rfl, hb, e0, e1, e2, hv0, hn0⟩ := hI
      obtain ⟨a0, n0, c0, rfl⟩ := slice_form hv0.1
      have d1 : wr.cell? ⟨b, 1, none⟩ = some (.slice a0 n0 c0) := (I.out.2.2.2.2.cell (p := ⟨b, 1, none⟩) hb).trans e1
      have D0 := hid (fun W (h : Below w1.heap.size w1 W) => (h.cell (p := ⟨b, 0, none⟩) hb).trans e0)
      have hv0r : Strs wr (.slice a0 n0 c0) ls[k] := hv0.1.below I.out.2.2.2.2 (Nat.le_refl _)
      have hl0 := fun W => hv0r.len (P := Tryz.prog) 22 3 9 Tryz.underlying22 W
      have hfl : (ls.drop k).flatten = ls[k] ++ (ls.drop (k + 1)).flatten := by rw [hd, List.flatten_cons]
      have hlk : ls[k].length ≤ 4096 := by rw [hfl, List.length_append] at hpl; omega
      have HV0 := hid hv0r
      have HRk := hid (R.out _ (List.getElem_mem hl))
      have HN0 := hid hn0
      have HFL := hid hfl
      have HDIS : Hid (∀ x ∈ ls[k], x ∉ cur) := hid (by
        have h3 : ((ls.drop k).flatten ++ cur).Nodup := List.Perm.nodup I.out.2.2.2.1.symm ND.out
        rw [hfl] at h3
        intro x hx hx2
        exact (List.nodup_append.1 h3).2.2 x (List.mem_append_left _ hx) x hx2 rfl)
      generalize ls[k] = l at *
      clear hd hv0r hn0 hfl e0 e1 e2 hv0 hb
      by_cases hle : l.length ≤ 2 * cur.length
      · have hlz : (l.length : Int) ≤ 2 * (cur.length : Int) := by omega
        go_wp2_with fail
        refine (Values_any a0 n0 c0 wr).mono ?_
        rintro e X1 ⟨rfl, hX1⟩
        have HX1 := hid hX1
        have hb1 : Below wr.heap.size wr X1 := by rw [hX1]; exact (Below.refl _ wr).alloc (Nat.le_refl _) _
        have hz1 : X1.heap.size = wr.heap.size + 1 := by rw [hX1]; simp
        have hcx : X1.cell? ⟨wr.heap.size, 0, none⟩ = some (.slice a0 n0 c0) := by
          have := World.alloc_heap_new wr (.cells #[.slice a0 n0 c0] 22)
          rw [← hX1] at this
          rw [Lib.cell_of_heap this]; rfl
        have HCX := hid hcx
        have HB1 := hid hb1
        have HZ1 := hid hz1
        clear hX1 hb1 hcx hz1
        go_wp2_with fail
        refine (both_any 115 #[.pointer (some ⟨wr.heap.size, 0, none⟩)] a1 n1 c1 X1).mono ?_
        rintro e X2 ⟨rfl, hX2⟩
        have HC2 := hid (take_in a0 n0 c0 l a1 n1 c1 cur X1 X2 wr.heap.size (by rw [HZ1.out]; omega) HCX.out (HV0.out.below HB1.out (Nat.le_refl _)) (I.out.2.1.below HB1.out (Nat.le_refl _)) hX2 (by omega))
        have hb2 : Below wr.heap.size wr X2 := by rw [hX2]; exact (HB1.out.alloc HB1.out.size _).alloc (by have := HB1.out.size; simp; omega) _
        have HB2 := hid (I.out.2.2.2.2.trans (hb2.mono I.out.2.2.2.2.size))
        clear hX2 hb2
        go_wp2_with fail
        refine HC2.out.mono ?_
        rintro e X3 ⟨v3, rfl, ho3, hb3⟩
        have HB3 := hid (HB2.out.trans (hb3.mono HB2.out.size))
        have dd := D0.out X3 HB3.out
        have HS3 := hid (ho3.strs (by rw [(mrg_perm l cur).length_eq, List.length_append]; omega))
        clear ho3 hb3
        go_wp2
        go_roundg (ls.length - (k + 1))
        case measure => omega
        case rel =>
          refine ⟨k + 1, po, mrg l cur, rfl, hl, Nat.le_refl _, hid ⟨HN0.out, HS3.out, mrg_rise HRk.out I.out.2.2.1 HDIS.out, ?_, HB3.out⟩⟩
          refine ((mrg_perm l cur).append_left _).trans (List.Perm.trans ?_ I.out.2.2.2.1)
          rw [HFL.out, ← List.append_assoc]
          exact (List.perm_append_comm).append_right cur
      · have hlz : ¬ (l.length : Int) ≤ 2 * (cur.length : Int) := by omega
        go_wp2_with fail
        refine HCL.out.mono ?_
        rintro e w2 ⟨v', rfl, ho2, hb2⟩
        obtain ⟨a2, n2, c2, rfl⟩ := slice_form (ho2.strs (by omega))
        have HR := HFIN.out w2 _ (hid ⟨ho2, hb2⟩) a2 n2 c2 rfl
        clear ho2 hb2
        go_wp2
        go_ret
        exact ⟨_, rfl, HR.out⟩
    · have hI := I.out.1
      rw [List.drop_of_length_le (by omega)] at hI
      obtain rfl : pp = none := hI
      go_wp2_with fail
      refine HCL.out.mono ?_
      rintro e w2 ⟨v', rfl, ho2, hb2⟩
      obtain ⟨a2, n2, c2, rfl⟩ := slice_form (ho2.strs (by omega))
      have HR := HFIN.out w2 _ (hid ⟨ho2, hb2⟩) a2 n2 c2 rfl
      clear ho2 hb2
      go_wp2
      go_ret
      exact ⟨_, rfl, HR.out⟩

theorem With_any (p : Option Addr) (N : List (List UInt8)) (v : Value) (l : List (List UInt8)) (w : World) (h : ScAt w p N) (hv : Strs w v l) (hl : l.length ≤ 1000000) (hx : ∀ x ∈ l, x.length ≤ 2000000) :
    Calls Tryz.prog 22 #[.pointer p, v] w fun e w' => ∃ po er, e = .returned (.tuple #[.pointer po, .int .i64 er]) ∧ GotSc N l w' po er ∧ Below w.heap.size w w' :=
  With_of p N v l w h hv hl hx fun ls own v W h1 h2 h3 h4 h5 h6 => within_any p ls v own W h1 h2 h3 h4 h5 h6
end Go.Proofs.YtlhhjocfbafoeaaGreatDoor.Sc
namespace Go.Proofs.YtlhhjocfbafoeaaGreatDoor.Sc
open Go Go.Proofs.YtlhhjocfbafoeaaGreatDoor Go.Proofs.YtlhhjocfbafoeaaGreatDoor.Utf Go.Proofs.YtlhhjocfbafoeaaGreatDoor.Names Go.RowKit Go.Shelf
set_option maxRecDepth 100000

/-- The names of a scope, told outermost first, merged. -/
def told : List (List (List UInt8)) → List (List UInt8)
  | [] => []
  | l :: ls => mrg (told ls) l
theorem told_perm : ∀ ls : List (List (List UInt8)), (told ls).Perm ls.flatten
  | [] => by simp [told]
  | l :: ls => by
    rw [List.flatten_cons]
    exact (mrg_perm _ _).trans (((told_perm ls).append_right l).trans List.perm_append_comm)
theorem told_rise : ∀ {ls : List (List (List UInt8))}, (∀ l ∈ ls, Rise l) → ls.flatten.Nodup → Rise (told ls)
  | [], _, _ => by simp [told, Rise]
  | l :: ls, h, hn => by
    rw [List.flatten_cons] at hn
    have hn' := List.nodup_append.1 hn
    exact mrg_rise (told_rise (fun x hx => h x (List.mem_cons_of_mem _ hx)) hn'.2.1) (h l (by simp)) fun a ha hb => hn'.2.2 a hb a ((told_perm ls).mem_iff.1 ha) rfl

/-- What lies in D, or came since. -/
def Since (D : Nat → Prop) (w w' : World) : Nat → Prop := fun b => D b ∨ (w.heap.size ≤ b ∧ b < w'.heap.size)
attribute [local go_sem] Oper.semAt_some
end Go.Proofs.YtlhhjocfbafoeaaGreatDoor.Sc
namespace Go.Proofs.YtlhhjocfbafoeaaGreatDoor.Sc
open Go Go.Proofs.YtlhhjocfbafoeaaGreatDoor Go.Proofs.YtlhhjocfbafoeaaGreatDoor.Utf Go.Proofs.YtlhhjocfbafoeaaGreatDoor.Names Go.RowKit
set_option maxRecDepth 100000

theorem RRight_any (x : List UInt8) (hx : x.length ≤ 2000000) (w : World) :
    Calls Tryz.prog 32 #[.string (text x)] w fun e w' => e = .returned (.bool (rightB x)) ∧ Below w.heap.size w w' := by
  have H := hid (fun W => RWords_any x hx W)
  have hr : rightB x = (wordsO x).isSome := rfl
  go_enter Tryz.func32, Tryz.ntmps32
  go_wp2_with (go_at_call 58; refine (H.out _).mono ?_; rintro e w1 ⟨v, rfl, hv, hb⟩)
  go_ret
  exact ⟨rfl, hb⟩
end Go.Proofs.YtlhhjocfbafoeaaGreatDoor.Sc
namespace Go.Proofs.YtlhhjocfbafoeaaGreatDoor.Sc
open Go Go.Proofs.YtlhhjocfbafoeaaGreatDoor Go.Proofs.YtlhhjocfbafoeaaGreatDoor.Utf Go.Proofs.YtlhhjocfbafoeaaGreatDoor.Names Go.RowKit
set_option maxRecDepth 100000

/-- The name of a number. -/
def nameOf (i : Nat) : List UInt8 := [110, UInt8.ofNat (97 + i % 16), UInt8.ofNat (97 + i / 16 % 16), UInt8.ofNat (97 + i / 256)]
theorem name_right_all : ((List.range 4099).all fun i => rightB (nameOf i)) = true := by decide +kernel
theorem name_right {i : Nat} (h : i < 4099) : rightB (nameOf i) = true := List.all_eq_true.1 name_right_all i (List.mem_range.2 h)
theorem of_inj {a b : Nat} (ha : a < 256) (hb : b < 256) (h : UInt8.ofNat a = UInt8.ofNat b) : a = b := by
  have := congrArg UInt8.toNat h
  simpa [Nat.mod_eq_of_lt ha, Nat.mod_eq_of_lt hb] using this
theorem name_inj {i j : Nat} (hi : i < 4099) (hj : j < 4099) (h : nameOf i = nameOf j) : i = j := by
  unfold nameOf at h
  injection h with _ h
  injection h with h1 h
  injection h with h2 h
  injection h with h3 _
  have e1 := of_inj (by omega) (by omega) h1
  have e2 := of_inj (by omega) (by omega) h2
  have e3 := of_inj (by omega) (by omega) h3
  omega
/-- The first so many. -/
def manyN (k : Nat) : List (List UInt8) := (List.range k).map nameOf
theorem many_nodup {k : Nat} (h : k ≤ 4099) : (manyN k).Nodup := by
  unfold manyN
  refine List.pairwise_map.2 (List.Pairwise.imp_of_mem ?_ (List.nodup_range (n := k)))
  intro a b ha hb hne e
  exact hne (name_inj (by have := List.mem_range.1 ha; omega) (by have := List.mem_range.1 hb; omega) e)
theorem many_mem {k : Nat} {z : List UInt8} (h : z ∈ manyN k) : ∃ i, i < k ∧ z = nameOf i := by
  obtain ⟨i, hi, rfl⟩ := List.mem_map.1 h
  exact ⟨i, List.mem_range.1 hi, rfl⟩
theorem many_len (k : Nat) : (manyN k).length = k := by simp [manyN]
theorem many_succ (k : Nat) : manyN (k + 1) = manyN k ++ [nameOf k] := by simp [manyN, List.range_succ]
theorem put_len {N m : List (List UInt8)} (hN : Rise N) (h : (N ++ m).Nodup) : (put N m).length = N.length + m.length := by
  have : (put N m).Perm (N ++ m) := (List.perm_ext_iff_of_nodup (put_rise m hN).nodup h).2 fun z => by rw [put_mem, List.mem_append]
  rw [this.length_eq, List.length_append]
theorem put_old {N m : List (List UInt8)} (hN : Rise N) (h : ∀ z ∈ m, z ∈ N) : put N m = N :=
  Rise.unique (put_rise m hN) hN fun z => by rw [put_mem]; exact ⟨fun h2 => h2.elim id (h z), .inl⟩
theorem and15 (n : Nat) (h : n < 5000) : bits .and .i64 (n : Int) 15 = ((n % 16 : Nat) : Int) := by
  have key : (List.range 5000).all (fun n => bits .and .i64 (n : Int) 15 == ((n % 16 : Nat) : Int)) = true := by decide +kernel
  simpa using List.all_eq_true.1 key n (List.mem_range.2 h)
def xyz : List (List UInt8) := [[120], [121], [122]]
theorem xyz_right : xyz.all rightB = true := by decide +kernel
end Go.Proofs.YtlhhjocfbafoeaaGreatDoor.Sc
namespace Go.Proofs.YtlhhjocfbafoeaaGreatDoor.Sc
open Go Go.Proofs.YtlhhjocfbafoeaaGreatDoor Go.Proofs.YtlhhjocfbafoeaaGreatDoor.Utf Go.Proofs.YtlhhjocfbafoeaaGreatDoor.Names Go.RowKit
set_option maxRecDepth 100000

theorem sw_at (A D : List (List UInt8)) (x y : List UInt8) : (strsOf (A ++ y :: x :: D))[A.length]? = some (.string (text y)) ∧ (strsOf (A ++ y :: x :: D))[A.length + 1]? = some (.string (text x)) := by
  constructor
  · simp [strsOf]
  · simp [strsOf, List.getElem?_append_right]
theorem sw_set (A D : List (List UInt8)) (x y : List UInt8) : ((strsOf (A ++ y :: x :: D)).set (A.length + 1) (.string (text y))).set A.length (.string (text x)) = strsOf (A ++ x :: y :: D) := by
  induction A with
  | nil => simp [strsOf]
  | cons a A ih => simp only [strsOf, List.map_cons, List.cons_append, List.length_cons, List.set_cons_succ] at ih ⊢; rw [ih]
theorem grows_by {N m : List (List UInt8)} (h : Rise N) : (put N m).length ≤ N.length + m.length := by
  rw [(put_perm h).length_eq, List.length_append]
  have h1 := List.length_filter_le (fun x => !decide (x ∈ N)) (norm m)
  have h2 := (norm_facts m).2.2
  omega
theorem put_snoc (N m : List (List UInt8)) (x : List UInt8) : put N (m ++ [x]) = ins x (put N m) := by simp [put]
theorem ins_down {N : List (List UInt8)} {x : List UInt8} {k : Nat} (hN : Rise N) (hb : ∀ y ∈ N.drop k, Op.bytesLess x y = true) (ha : ∀ y ∈ N.take k, Op.bytesLess y x = true) : ins x N = N.take k ++ x :: N.drop k := by
  have h := ins_at (x := x) (a := N.take k) (b := N.drop k) (by rw [List.take_append_drop]; exact hN) ha hb
  rw [List.take_append_drop] at h
  exact h

set_option maxHeartbeats 8000000 in
theorem RWith_any (u v : Value) (N more : List (List UInt8)) (w : World) (hu : Strs w u N) (hv : Strs w v more) (hN : Rise N) (hn : N.length ≤ 2000) (hm : more.length ≤ 2000) (hx : ∀ x ∈ more, x.length ≤ 2000000) :
    Calls Tryz.prog 13 #[u, v] w fun e w' => ∃ r er, e = .returned (.tuple #[r, .int .i64 er]) ∧ Below w.heap.size w w' ∧ ((er = 6 ∧ r = .slice none 0 0 ∧ more.all rightB = false) ∨ (er = 0 ∧ more.all rightB = true ∧ Strs w' r (put N more))) := by
  obtain ⟨i0, hi, hz0, hz1, hz2⟩ := info_parts infoS
  have mixed : Tryz.prog.follows Departure.mixedOrders = true := by kernel_rfl
  have hlen := fun W => hv.len (P := Tryz.prog) 22 3 9 underS W
  have HU := hid (hu.below (ba (b0 w) (.cells #[] 9)) (Nat.le_refl _))
  have HV := hid hv
  have HN := hid hN
  have HX := hid hx
  clear hu hv hN hx
  go_enter Tryz.func13, Tryz.ntmps13
  go_wp2_with (at_builtin; refine wpList_append_row rfl _ _ 22 rfl w.heap.size 9 i0 _ 1 16 underS hi hz0 hz1 hz2 rfl (by decide) _ 0 [] rfl (owns_empty w _ 1 _ (Nat.le_refl _)) _ N.length (strsOf N) rfl HU.out (strsOf_one N) ?d1 ?d2 ?d3 ?_)
  case d1 => omega
  case d2 => unfold maxLen; omega
  case d3 => simp
  intro v3 w3 hown3 hg3
  have HB := hid (grown_below (ba (b0 w) (.cells #[] 9)) (owns_empty w _ 1 _ (Nat.le_refl _)) (Nat.le_refl _) hg3)
  have HO : Hid (OwnS w.heap.size w3 v3 N) := hid (by
    unfold OwnS
    simpa using hown3)
  clear hown3 hg3
  go_wp2_with fail
  go_loopg [7] more.length (fun kx s7 wr => ∃ i : Nat, s7 = .int .i64 i ∧ i ≤ more.length ∧ more.length - i ≤ kx ∧ Hid (Below w3.heap.size w3 wr ∧ (more.take i).all rightB = true))
  case atStart => exact ⟨0, rfl, Nat.zero_le _, by omega, hid ⟨Below.refl _ _, by simp⟩⟩
  case round =>
    obtain ⟨i, rfl, hi2, hg, I⟩ := hrel
    by_cases hil : i < more.length
    · obtain ⟨b1, o1, hix1, hcl1⟩ := ((HV.out.below HB.out (Nat.le_refl _)).below I.out.1 (Nat.le_refl _)).at (P := Tryz.prog) i hil 22 9 underS sizeS
      have hst : (more.take (i + 1)).all rightB = ((more.take i).all rightB && rightB more[i]) := by rw [List.take_succ_eq_append_getElem hil, List.all_append]; simp
      have HR := hid (RRight_any more[i] (HX.out _ (List.getElem_mem hil)) wr)
      have HST := hid hst
      have HMM := hid (List.getElem_mem hil)
      clear hst
      generalize more[i] = x at *
      obtain ⟨m, hm2⟩ : ∃ m, rightB x = m := ⟨_, rfl⟩
      rw [hm2] at HR HST
      have HM := hid hm2
      clear hm2
      generalize text x = tx at *
      cases m with
      | false =>
        go_wp2_with fail
        refine HR.out.mono ?_
        rintro e w4 ⟨rfl, hb4⟩
        have HB4 := hid (bt (bt HB.out I.out.1) hb4)
        clear hb4
        go_wp2
        go_ret2
        exact ⟨_, _, rfl, HB4.out, .inl ⟨rfl, rfl, List.all_eq_false.2 ⟨x, HMM.out, by rw [HM.out]; decide⟩⟩⟩
      | true =>
        go_wp2_with fail
        refine HR.out.mono ?_
        rintro e w4 ⟨rfl, hb4⟩
        have HB4 := hid (bt I.out.1 hb4)
        clear hb4
        go_wp2
        go_roundg (more.length - (i + 1))
        case measure => omega
        case rel => exact ⟨i + 1, by go_num, by omega, Nat.le_refl _, hid ⟨HB4.out, by rw [HST.out, I.out.2]; rfl⟩⟩
    · have e : i = more.length := by omega
      subst e
      have HALL : Hid (more.all rightB = true) := hid (by have := I.out.2; rwa [List.take_of_length_le (Nat.le_refl _)] at this)
      have HO1 := hid (HO.out.later I.out.1)
      have HB1 := hid (bt HB.out I.out.1)
      clear I
      go_wp2_with fail
      go_loopg [6, 8, 9, 10] more.length (fun kx s6 s8 s9 s10 wr => ∃ i : Nat, s8 = .int .i64 i ∧ i ≤ more.length ∧ more.length - i ≤ kx ∧ Hid (OwnS w.heap.size wr s6 (put N (more.take i)) ∧ Below w.heap.size w wr))
      case atStart => exact ⟨0, rfl, Nat.zero_le _, by omega, hid ⟨by rw [List.take_zero]; exact HO1.out, HB1.out⟩⟩
      case round =>
        obtain ⟨i, rfl, hi2, hg, I⟩ := hrel
        have hnl : (put N (more.take i)).length ≤ 4000 := by
          have h1 := grows_by (m := more.take i) HN.out
          have h2 : (more.take i).length ≤ more.length := by rw [List.length_take]; omega
          omega
        have HNR := hid (put_rise (more.take i) HN.out)
        by_cases hil : i < more.length
        · obtain ⟨b1, o1, hix1, hcl1⟩ := (HV.out.below I.out.2 (Nat.le_refl _)).at (P := Tryz.prog) i hil 22 9 underS sizeS
          have HST : Hid (put N (more.take (i + 1)) = ins more[i] (put N (more.take i))) := hid (by rw [List.take_succ_eq_append_getElem hil, put_snoc])
          have HHAS := hid (RHas_any _ (put N (more.take i)) more[i] wr (I.out.1.strs (by omega)))
          generalize put N (more.take i) = M at *
          generalize more[i] = x at *
          by_cases hxm : x ∈ M
          · rw [decide_eq_true hxm] at HHAS
            have HE : Hid (ins x M = M) := hid (ins_there HNR.out hxm)
            clear hxm
            generalize text x = tx at *
            go_wp2_with fail
            refine HHAS.out.mono ?_
            rintro e w4 ⟨rfl, hw4⟩
            subst hw4
            go_wp2
            go_roundg (more.length - (i + 1))
            case measure => omega
            case rel => exact ⟨i + 1, by go_num, by omega, Nat.le_refl _, hid ⟨by rw [HST.out, HE.out]; exact I.out.1, I.out.2⟩⟩
          · rw [decide_eq_false hxm] at HHAS
            have HXM := hid hxm
            have HAP := hid (I.out.1.later (ba (b0 wr) (.cells #[.string (text x)] 9)))
            have HRO := hid (Row.ofBuild (sz := 1) wr #[.string (text x)] 9 1 rfl (by omega))
            have HBQ := hid (ba I.out.2 (.cells #[.string (text x)] 9))
            clear hxm I
            obtain ⟨tx, htx⟩ : ∃ tx, text x = tx := ⟨_, rfl⟩
            rw [htx] at HHAS HAP HRO HBQ hcl1
            have HTX := hid htx
            clear htx
            go_wp2_with fail
            refine HHAS.out.mono ?_
            rintro e w4 ⟨rfl, hw4⟩
            subst hw4
            go_wp2_with (at_builtin; refine wpList_append_row rfl _ _ 22 rfl w.heap.size 9 i0 _ 1 16 underS hi hz0 hz1 hz2 rfl (by decide) _ _ _ rfl HAP.out _ 1 [.string tx] rfl HRO.out ?d0 ?e1 ?e2 ?e3 ?_)
            case d0 => simp [Value.oneCell']
            case e1 => omega
            case e2 => unfold maxLen; omega
            case e3 => exact HBQ.out.size
            intro v6 w6 hown6 hg6
            have HB6 := hid (grown_below HBQ.out HAP.out (Nat.le_refl _) hg6)
            have hO6 : OwnS w.heap.size w6 v6 (M ++ [x]) := by
              unfold OwnS
              rw [List.length_append, strsOf_append]
              have e : strsOf [x] = [.string tx] := by rw [← HTX.out]; rfl
              rw [e]
              exact hown6
            obtain ⟨n, hn2⟩ : ∃ n, M.length = n := ⟨_, rfl⟩
            have hl6 := fun W => (hO6.strs (by simp; omega)).len (P := Tryz.prog) 22 3 9 underS W
            have hl6' : ∀ W, (Builtin.len_ #[22] 3 #[v6]).run Tryz.prog W = .ok (.int .i64 ((n : Int) + 1)) W := fun W => by
              rw [hl6 W, List.length_append, hn2]; rfl
            have HO6 := hid hO6
            have HN2 := hid hn2
            rw [hn2] at hnl
            clear hO6 hl6 hown6 hg6 hn2
            go_wp2_with fail
            go_loopg [9, 10] n (fun kx s9 s10 wr => ∃ k : Nat, s9 = .int .i64 k ∧ k ≤ n ∧ k ≤ kx ∧ Hid (OwnS w.heap.size wr v6 (M.take k ++ x :: M.drop k) ∧ Below w.heap.size w wr ∧ ∀ y ∈ M.drop k, Op.bytesLess x y = true))
            case atStart => exact ⟨n, by go_num, Nat.le_refl _, Nat.le_refl _, hid ⟨by rw [← HN2.out, List.take_length, List.drop_length]; exact HO6.out, HB6.out, by rw [← HN2.out, List.drop_length]; simp⟩⟩
            case round =>
              obtain ⟨k, rfl, hk, hkg, J⟩ := hrel
              have fin : (∀ y ∈ M.take k, Op.bytesLess y x = true) → OwnS w.heap.size wr v6 (put N (more.take (i + 1))) := fun h => by
                rw [HST.out, ins_down HNR.out J.out.2.2 h]; exact J.out.1
              have FIN := hid fin
              have hkM : k ≤ M.length := by rw [HN2.out]; exact hk
              clear fin
              by_cases h00 : k = 0
              · have hp : decide ((0 : Int) < (k : Int)) = false := decide_eq_false (by omega)
                have hp2 : decide (0 < k) = false := decide_eq_false (by omega)
                have HF := hid (FIN.out (by subst h00; simp))
                clear h00 FIN
                go_wp2_with fail
                go_quiet (fail)
                go_wp2
                go_roundg (more.length - (i + 1))
                case measure => omega
                case rel => exact ⟨i + 1, by go_num, by omega, Nat.le_refl _, hid ⟨HF.out.later (below_drewN wr (Below.refl _ wr) _), bt J.out.2.1 (below_drewN wr (Below.refl _ wr) _)⟩⟩
              · obtain ⟨A, hA⟩ : ∃ A, M.take (k - 1) = A := ⟨_, rfl⟩
                obtain ⟨D, hD⟩ : ∃ D, M.drop k = D := ⟨_, rfl⟩
                obtain ⟨y, hy⟩ : ∃ y, M[k - 1]'(by omega) = y := ⟨_, rfl⟩
                have hAl : A.length = k - 1 := by rw [← hA, List.length_take]; omega
                have hAk : A.length + 1 = k := by omega
                have htk : M.take k = A ++ [y] := by
                  have := List.take_succ_eq_append_getElem (l := M) (i := k - 1) (by omega)
                  rw [show k - 1 + 1 = k by omega, hA, hy] at this
                  exact this
                have hdk : M.drop (k - 1) = y :: D := by
                  have := List.drop_eq_getElem_cons (l := M) (i := k - 1) (by omega)
                  rw [show k - 1 + 1 = k by omega, hD, hy] at this
                  exact this
                have hL : M.take k ++ x :: M.drop k = A ++ y :: x :: D := by rw [htk, hD]; simp
                have O1 : OwnS w.heap.size wr v6 (A ++ y :: x :: D) := by rw [← hL]; exact J.out.1
                have hlL : (A ++ y :: x :: D).length = n + 1 := by rw [← hL, List.length_append, List.length_cons, List.length_take, List.length_drop, HN2.out]; omega
                have hk1 : k - 1 < (A ++ y :: x :: D).length := by omega
                have hkk : ((k - 1 : Nat) : Int) = (k : Int) - 1 := by omega
                have hp : (0 : Int) < (k : Int) := by omega
                have hp2 : 0 < k := by omega
                have hwr : IntKind.i64.wrap ((k : Int) - 1) = (k : Int) - 1 := IntWalk.i64_in _ (by omega)
                have s1 := (sw_at A D x y).1
                have s2 := (sw_at A D x y).2
                rw [hAl] at s1
                rw [hAk] at s2
                obtain ⟨ty, hty⟩ : ∃ ty, text y = ty := ⟨_, rfl⟩
                rw [hty] at s1
                rw [HTX.out] at s2
                have hless := tless x y
                rw [HTX.out, hty] at hless
                have hrel2 : Op.bytesLess x y = true ∨ (Op.bytesLess x y = false ∧ ∀ z ∈ M.take k, Op.bytesLess z x = true) := by
                  have hyM : y ∈ M := by rw [← hy]; exact List.getElem_mem _
                  have hxy : x ≠ y := fun e => HXM.out (e ▸ hyM)
                  rcases less_total hxy with h | h
                  · exact .inl h
                  · refine .inr ⟨less_asymm h, fun z hz => ?_⟩
                    rw [htk] at hz
                    rcases List.mem_append.1 hz with hz | hz
                    · refine less_trans ?_ h
                      have hr := HNR.out
                      rw [← List.take_append_drop k M, htk] at hr
                      have h5 := (List.pairwise_append.1 hr).1
                      exact (List.pairwise_append.1 h5).2.2 z hz y (by simp)
                    · rw [List.mem_singleton] at hz; rw [hz]; exact h
                have hbelow : ∀ z ∈ M.drop k, Op.bytesLess x z = true := J.out.2.2
                have HDK : Hid (Op.bytesLess x y = true → ∀ z ∈ M.drop (k - 1), Op.bytesLess x z = true) := hid (fun h z hz => by
                  rw [hdk] at hz
                  rcases List.mem_cons.1 hz with rfl | hz
                  · exact h
                  · exact hbelow z (by rw [hD]; exact hz))
                have hnew : OwnS w.heap.size wr v6 (A ++ y :: x :: D) → ∀ W, W.ownsRow w.heap.size 9 1 v6 (A ++ y :: x :: D).length (strsOf (A ++ x :: y :: D)) → OwnS w.heap.size W v6 (M.take (k - 1) ++ x :: M.drop (k - 1)) := fun _ W h => by
                  rw [hA, hdk]
                  unfold OwnS
                  have : (A ++ x :: y :: D).length = (A ++ y :: x :: D).length := by simp
                  rw [this]
                  exact h
                have HNEW := hid (hnew O1)
                have s3 := sw_set A D x y
                rw [hAk, hAl, HTX.out, hty] at s3
                have HS3 := hid s3
                have HS1 := hid s1
                have HS2 := hid s2
                have HO1 := hid O1
                have HLL := hid hlL
                clear hnew s1 s2 s3 O1 hbelow hL htk hdk hA hD hy hAl hAk hty h00
                generalize A ++ y :: x :: D = L1 at *
                obtain ⟨b2, hix2, hc2, -, -, -, -⟩ := owns_at (P := Tryz.prog) HO1.out k (by rw [hlL]; omega) 22 underS sizeS
                obtain ⟨b3, hix3, hc3, -, -, -, -⟩ := owns_at (P := Tryz.prog) HO1.out (k - 1) (by rw [hlL]; omega) 22 underS sizeS
                have hcx := hc2 _ HS2.out
                have hcy := hc3 _ HS1.out
                rw [hkk] at hix3
                clear hc2 hc3 hlL hk1
                rcases hrel2 with h | ⟨h, ha⟩
                · rw [h] at hless
                  have HL := hid (HDK.out h)
                  clear h HDK FIN
                  go_wp2_with fail
                  go_quiet (fail)
                  rename_i nq
                  have hbz : Below wr.heap.size wr (wr.drewN nq) := below_drewN wr (Below.refl _ wr) nq
                  have HO2 := hid (HO1.out.later hbz)
                  have HBZ := hid (bt J.out.2.1 hbz)
                  clear hix2 hix3 hcx hcy hbz
                  generalize wr.drewN nq = wy at *
                  obtain ⟨b2, hix2, hc2, hf2, hB2, -, hset2⟩ := owns_at (P := Tryz.prog) HO2.out k (by rw [HLL.out]; omega) 22 underS sizeS
                  obtain ⟨b3, hix3, hc3, -, -, -, -⟩ := owns_at (P := Tryz.prog) HO2.out (k - 1) (by rw [HLL.out]; omega) 22 underS sizeS
                  have hcx := hc2 _ HS2.out
                  have hcy := hc3 _ HS1.out
                  have O2 := hset2 (.string ty)
                  obtain ⟨b4, hix4, hc4, hf4, hB4, -, hset4⟩ := owns_at (P := Tryz.prog) O2 (k - 1) (by rw [HLL.out]; omega) 22 underS sizeS
                  obtain rfl : b4 = b3 := by
                    have := (hix4 .i64 wy).symm.trans (hix3 .i64 wy)
                    simpa using this
                  have hcs := hc4 (.string ty) (by rw [List.getElem?_set_ne (by omega)]; exact HS1.out)
                  have O3 := hset4 (.string tx)
                  rw [HS3.out] at O3
                  have HO3 := hid (HNEW.out _ O3)
                  have HBL := hid ((HBZ.out.setCell (p := ⟨b2, k, none⟩) hB2 (.string ty)).setCell (p := ⟨b4, k - 1, none⟩) hB4 (.string tx))
                  rw [hkk] at hix3
                  clear O2 O3 hset2 hset4 hc2 hc3 hc4 hix4 hB2 hB4 hkk
                  go_wp2
                  go_roundg (k - 1)
                  case measure => omega
                  case rel => exact ⟨k - 1, by go_num, by omega, Nat.le_refl _, hid ⟨HO3.out, HBL.out, HL.out⟩⟩
                · rw [h] at hless
                  have HF := hid (FIN.out ha)
                  clear h ha HDK FIN
                  go_wp2_with fail
                  go_quiet (fail)
                  go_wp2
                  go_roundg (more.length - (i + 1))
                  case measure => omega
                  case rel => exact ⟨i + 1, by go_num, by omega, Nat.le_refl _, hid ⟨HF.out.later (below_drewN wr (Below.refl _ wr) _), bt J.out.2.1 (below_drewN wr (Below.refl _ wr) _)⟩⟩
        · have e : i = more.length := by omega
          subst e
          rw [List.take_of_length_le (Nat.le_refl _)] at I hnl
          have hs := I.out.1.strs (by omega)
          have hlo := fun W => hs.len (P := Tryz.prog) 22 3 9 underS W
          generalize (put N more).length = n at *
          have HS := hid hs
          clear hs
          have hp : ¬ (4096 : Int) < (n : Int) := by omega
          go_wp2
          go_ret2
          exact ⟨_, _, rfl, I.out.2, .inr ⟨rfl, List.all_eq_true.1 HALL.out, HS.out⟩⟩
end Go.Proofs.YtlhhjocfbafoeaaGreatDoor.Sc
