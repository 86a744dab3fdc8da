/- Layer 9: sort.Search against whatever closure that reads; slices.BinarySearch at texts; a scope in memory; contract of Has. -/
import Derived.Test.YthggoohchjifnaaDoorNamesA
import Derived.Test.YthggoohchjifnaaDoorScMath
import Derived.Deep.LoopGhost
import Derived.Deep.QuietTactic
import Derived.BigQuiet
import Derived.Sort.Walk0
set_option linter.unusedVariables false
set_option linter.unusedSimpArgs false
namespace Go.Proofs.YthggoohchjifnaaDoor.Sc
open Go Go.Proofs.YthggoohchjifnaaDoor Go.Proofs.YthggoohchjifnaaDoor.Utf Go.Proofs.YthggoohchjifnaaDoor.Names Go.RowKit
set_option maxRecDepth 100000

theorem drewN_add (w : World) (a b : Nat) : (w.drewN a).drewN b = w.drewN (a + b) := World.drewN_drewN w a b
theorem below_drewN (w : World) {W : World} {B : Nat} (h : Below B w W) (q : Nat) : Below B w (W.drewN q) := ⟨h.os, h.tape, h.output, h.size, h.block⟩

set_option maxHeartbeats 4000000 in
/-- sort.Search: at a closure that only reads, false first and then true: the first place at which it is true. -/
theorem Search_any (g : Nat) (cb : Array Value) (n : Nat) (p : Nat → Bool) (w : World) (eg : ∀ args w, (callFunc g args).run Tryd.prog w = .ok (.enter g args) w) (hn : n < 4611686018427387904)
    (hf : ∀ (m i : Nat), i < n → Calls Tryd.prog g (#[.int .i64 i] ++ cb) (w.drewN m) fun e w' => e = .returned (.bool (p i)) ∧ ∃ q, w' = (w.drewN m).drewN q)
    (hm : ∀ a b, a ≤ b → b < n → p a = true → p b = true) :
    Calls Tryd.prog 43 #[.int .i64 n, .func (.func g) #[] cb] w fun e w' => ∃ r : Nat, e = .returned (.int .i64 r) ∧ r ≤ n ∧ (∀ t, t < r → p t = false) ∧ (∀ t, r ≤ t → t < n → p t = true) ∧ ∃ q, w' = w.drewN q := by
  have HF := hid hf
  have M := hid hm
  clear hf hm
  go_enter Tryd.func43, Tryd.ntmps43
  go_wp2
  go_loopg [5, 6] n (fun kx s5 s6 wr => ∃ (lo hi q : Nat), s5 = .int .i64 lo ∧ s6 = .int .i64 hi ∧ lo ≤ hi ∧ hi ≤ n ∧ hi - lo ≤ kx ∧ wr = w.drewN q ∧
    Hid ((∀ t, t < lo → p t = false) ∧ (∀ t, hi ≤ t → t < n → p t = true)))
  case atStart => exact ⟨0, n, 0, rfl, rfl, Nat.zero_le _, Nat.le_refl _, by omega, rfl, hid ⟨fun t ht => absurd ht (Nat.not_lt_zero _), fun t h1 h2 => by omega⟩⟩
  case round =>
    obtain ⟨lo, hi, q, rfl, rfl, hlh, hin, hg, rfl, I⟩ := hrel
    by_cases hlt : lo < hi
    · have hc := HF.out q ((lo + hi) / 2) (by omega)
      rw [show (((lo + hi) / 2 : Nat) : Int) = ((lo : Int) + (hi : Int)) / 2 by omega] at hc
      cases hp : p ((lo + hi) / 2) <;> rw [hp] at hc
      · have HP := hid hp
        clear hp
        go_wp2_with (go_at_fn g; refine hc.mono ?_; rintro e w' ⟨rfl, nq, rfl⟩)
        go_roundg (hi - ((lo + hi) / 2 + 1))
        case measure => omega
        case rel =>
          exact ⟨(lo + hi) / 2 + 1, hi, q + nq, by rw [show ((lo : Int) + (hi : Int)) / 2 + 1 = (((lo + hi) / 2 + 1 : Nat) : Int) by omega], rfl, by omega, hin, Nat.le_refl _, rfl,
            hid ⟨fun t ht => (by
              cases h : p t with
              | false => rfl
              | true => have := M.out t ((lo + hi) / 2) (by omega) (by omega) h; rw [HP.out] at this; cases this), I.out.2⟩⟩
      · have HP := hid hp
        clear hp
        go_wp2_with (go_at_fn g; refine hc.mono ?_; rintro e w' ⟨rfl, nq, rfl⟩)
        go_roundg ((lo + hi) / 2 - lo)
        case measure => omega
        case rel =>
          exact ⟨lo, (lo + hi) / 2, q + nq, rfl, by rw [show ((lo : Int) + (hi : Int)) / 2 = (((lo + hi) / 2 : Nat) : Int) by omega], by omega, by omega, Nat.le_refl _, rfl,
            hid ⟨I.out.1, fun t ht htn => M.out ((lo + hi) / 2) t ht htn HP.out⟩⟩
    · obtain rfl : hi = lo := by omega
      go_wp2
      go_ret
      exact ⟨hi, rfl, hin, I.out.1, I.out.2, q, rfl⟩

theorem tlist (l : List UInt8) : (text l).toList = l := Names.text_list l
theorem teq (a b : List UInt8) : ((text a).toList == (text b).toList) = decide (a = b) := by
  rw [tlist, tlist]
  by_cases h : a = b
  · subst h; simp
  · rw [decide_eq_false h, beq_eq_false_iff_ne]; exact h
theorem tself (a : List UInt8) : ((text a).toList != (text a).toList) = false := by simp [bne]

theorem isNaN1_any (a : List UInt8) (w : World) : Calls Tryd.prog 68 #[.string (text a)] w fun e w' => e = .returned (.bool false) ∧ w' = w := by
  have h := tself a
  go_enter Tryd.func68, Tryd.ntmps68
  go_wp2
  go_ret
  exact ⟨rfl, rfl⟩
theorem isNaN2_any (a : List UInt8) (w : World) : Calls Tryd.prog 48 #[.string (text a)] w fun e w' => e = .returned (.bool false) ∧ w' = w := by
  have h := tself a
  go_enter Tryd.func48, Tryd.ntmps48
  go_wp2
  go_ret
  exact ⟨rfl, rfl⟩
theorem Less_any (a b : List UInt8) (w : World) : Calls Tryd.prog 47 #[.string (text a), .string (text b)] w fun e w' => e = .returned (.bool (Op.bytesLess a b)) ∧ w' = w := by
  have hl : Op.bytesLess (text a).toList (text b).toList = Op.bytesLess a b := by rw [tlist, tlist]
  go_enter Tryd.func47, Tryd.ntmps47
  go_wp2_with (go_at_call 68; refine (isNaN1_any a _).mono ?_; rintro e w1 ⟨rfl, rfl⟩)
  go_ret
  exact ⟨rfl, rfl⟩

/-- Of texts in their order: the first place from which on they aren't less. -/
def cutAt (l : List (List UInt8)) (x : List UInt8) (k : Nat) : Prop := k ≤ l.length ∧ (∀ t y, l[t]? = some y → t < k → Op.bytesLess y x = true) ∧ (∀ t y, l[t]? = some y → k ≤ t → Op.bytesLess y x = false)
theorem Rise.at_lt {l : List (List UInt8)} (h : Rise l) {i j : Nat} (hi : i < l.length) (hj : j < l.length) (hij : i < j) : Op.bytesLess l[i] l[j] = true := List.pairwise_iff_getElem.1 h i j hi hj hij
theorem mem_cut {l : List (List UInt8)} (h : Rise l) {x : List UInt8} {k : Nat} (hc : cutAt l x k) : x ∈ l ↔ l[k]? = some x := by
  constructor
  · intro hm
    obtain ⟨i, hi, e⟩ := List.mem_iff_getElem.1 hm
    have e2 : l[i]? = some x := by rw [List.getElem?_eq_getElem hi, e]
    have hik : k ≤ i := by
      rcases Nat.lt_or_ge i k with c | c
      · have := hc.2.1 i x e2 c; rw [less_irrefl] at this; cases this
      · exact c
    rcases Nat.lt_or_ge k i with c | c
    · have h1 := h.at_lt (by omega : k < l.length) hi c
      rw [e] at h1
      have h2 := hc.2.2 k _ (List.getElem?_eq_getElem (by omega)) (Nat.le_refl _)
      rw [h1] at h2; cases h2
    · have : i = k := by omega
      rw [← this]; exact e2
  · intro e
    exact List.mem_of_getElem? e

set_option maxHeartbeats 4000000 in
theorem BinarySearch_any (v : Value) (l : List (List UInt8)) (x : List UInt8) (w : World) (hv : Strs w v l) (hr : Rise l) :
    Calls Tryd.prog 33 #[v, .string (text x)] w fun e w' => ∃ r : Nat, e = .returned (.tuple #[.int .i64 r, .bool (decide (x ∈ l))]) ∧ ∃ q, w' = w.drewN q := by
  have hle := hv.le
  obtain ⟨m, hm⟩ : ∃ m, decide (x ∈ l) = m := ⟨_, rfl⟩
  rw [hm]
  have HM := hid hm
  clear hm
  have hlen := fun W => hv.len (P := Tryd.prog) 22 3 9 Tryd.underlying22 W
  have AT := hid (fun (k : Nat) (hk : k < l.length) => hv.at (P := Tryd.prog) k hk 22 9 Tryd.underlying22 Tryd.sizeOf9)
  have R := hid hr
  have HE := hid teq
  clear hv hr
  go_enter Tryd.func33, Tryd.ntmps33
  go_wp2
  go_loopg [7, 8] l.length (fun kx s5 s6 wr => ∃ (lo hi q : Nat), s5 = .int .i64 lo ∧ s6 = .int .i64 hi ∧ lo ≤ hi ∧ hi ≤ l.length ∧ hi - lo ≤ kx ∧ wr = w.drewN q ∧
    Hid ((∀ t (h : t < l.length), t < lo → Op.bytesLess l[t] x = true) ∧ (∀ t (h : t < l.length), hi ≤ t → Op.bytesLess l[t] x = false)))
  case atStart => exact ⟨0, l.length, 0, rfl, rfl, Nat.zero_le _, Nat.le_refl _, by omega, rfl, hid ⟨fun t _ ht => absurd ht (Nat.not_lt_zero _), fun t h1 h2 => by omega⟩⟩
  case round =>
    obtain ⟨lo, hi, q, rfl, rfl, hlh, hin, hg, rfl, I⟩ := hrel
    by_cases hlt : lo < hi
    · have hml : (lo + hi) / 2 < l.length := by omega
      obtain ⟨b, o, hix, hcl⟩ := AT.out ((lo + hi) / 2) hml
      rw [show (((lo + hi) / 2 : Nat) : Int) = ((lo : Int) + (hi : Int)) / 2 by omega] at hix
      have hcl2 : (w.drewN q).cell? ⟨b, o, none⟩ = some (.string (text l[(lo + hi) / 2])) := hcl
      have HL := hid (fun W => Less_any l[(lo + hi) / 2] x W)
      clear hcl
      cases hp : Op.bytesLess l[(lo + hi) / 2] x <;> rw [hp] at HL
      · have HP := hid hp
        clear hp
        generalize text l[(lo + hi) / 2] = ty at *
        go_wp2_with (go_at_call 47; refine (HL.out _).mono ?_; rintro e w' ⟨rfl, rfl⟩)
        go_roundg ((lo + hi) / 2 - lo)
        case measure => omega
        case rel =>
          refine ⟨lo, (lo + hi) / 2, q, rfl, by rw [show ((lo : Int) + (hi : Int)) / 2 = (((lo + hi) / 2 : Nat) : Int) by omega], by omega, by omega, Nat.le_refl _, rfl, hid ⟨I.out.1, fun t h ht => ?_⟩⟩
          rcases Nat.lt_or_ge ((lo + hi) / 2) t with c | c
          · have h1 := R.out.at_lt hml h c
            cases h2 : Op.bytesLess l[t] x
            · rfl
            · have := less_trans h1 h2; rw [HP.out] at this; cases this
          · have e : t = (lo + hi) / 2 := by omega
            subst e; exact HP.out
      · have HP := hid hp
        clear hp
        generalize text l[(lo + hi) / 2] = ty at *
        go_wp2_with (go_at_call 47; refine (HL.out _).mono ?_; rintro e w' ⟨rfl, rfl⟩)
        go_roundg (hi - ((lo + hi) / 2 + 1))
        case measure => omega
        case rel =>
          refine ⟨(lo + hi) / 2 + 1, hi, q, by rw [show ((lo : Int) + (hi : Int)) / 2 + 1 = (((lo + hi) / 2 + 1 : Nat) : Int) by omega], rfl, by omega, hin, Nat.le_refl _, rfl, hid ⟨fun t h ht => ?_, I.out.2⟩⟩
          rcases Nat.lt_or_ge t ((lo + hi) / 2) with c | c
          · exact less_trans (R.out.at_lt h hml c) HP.out
          · have e : t = (lo + hi) / 2 := by omega
            subst e; exact HP.out
    · obtain rfl : hi = lo := by omega
      have hcut : cutAt l x hi := ⟨hin, fun t y e ht => by
          obtain ⟨h, rfl⟩ := List.getElem?_eq_some_iff.1 e
          exact I.out.1 t h ht, fun t y e ht => by
          obtain ⟨h, rfl⟩ := List.getElem?_eq_some_iff.1 e
          exact I.out.2 t h ht⟩
      have hmc := mem_cut R.out hcut
      by_cases hl : hi < l.length
      · obtain ⟨b, o, hix, hcl⟩ := AT.out hi hl
        have hcl2 : (w.drewN q).cell? ⟨b, o, none⟩ = some (.string (text l[hi])) := hcl
        have hq := HE.out l[hi] x
        have hmm : decide (x ∈ l) = decide (l[hi] = x) := by
          apply decide_eq_decide.2
          rw [hmc, List.getElem?_eq_getElem hl]
          exact ⟨fun e => Option.some.inj e, fun e => by rw [e]⟩
        have N1 := hid (fun W => isNaN2_any l[hi] W)
        have N2 := hid (fun W => isNaN2_any x W)
        have hm2 := HM.out.symm.trans hmm
        clear hmm hmc hcut hcl I HM
        generalize l[hi] = y at *
        by_cases hyx : y = x
        · rw [decide_eq_true hyx] at hq hm2
          subst hm2
          clear hyx
          generalize text y = ty at *
          go_wp2
          go_ret2
          exact ⟨hi, rfl, q, rfl⟩
        · rw [decide_eq_false hyx] at hq hm2
          subst hm2
          clear hyx
          generalize text y = ty at *
          go_wp2_with (go_at_call 48; refine (N1.out _).mono ?_; rintro e w' ⟨rfl, rfl⟩)
          go_ret2
          exact ⟨hi, rfl, q, rfl⟩
      · have hmm : decide (x ∈ l) = false := by
          apply decide_eq_false
          rw [hmc, List.getElem?_eq_none (by omega)]
          simp
        obtain rfl : m = false := HM.out.symm.trans hmm
        clear hmm hmc hcut I HM
        go_wp2
        go_ret2
        exact ⟨hi, rfl, q, rfl⟩

/-- What lies in the blocks D lies there still. -/
def Same (D : Nat → Prop) (w W : World) : Prop := ∀ b, D b → W.heap[b]? = w.heap[b]?
theorem Same.cell {D : Nat → Prop} {w W : World} (h : Same D w W) {b o : Nat} (hb : D b) : W.cell? ⟨b, o, none⟩ = w.cell? ⟨b, o, none⟩ := by simp only [World.cell?, h b hb]
theorem Same.trans {D : Nat → Prop} {a b c : World} (h : Same D a b) (k : Same D b c) : Same D a c := fun x hx => (k x hx).trans (h x hx)
theorem Same.mono {D E : Nat → Prop} {w W : World} (h : Same D w W) (he : ∀ b, E b → D b) : Same E w W := fun b hb => h b (he b hb)
theorem Same.refl (D : Nat → Prop) (w : World) : Same D w w := fun _ _ => rfl
theorem same_below {B : Nat} {w W : World} (h : Below B w W) : Same (· < B) w W := fun b hb => h.block b hb

/-- A row of texts that lies in the blocks D. -/
def StrsD (D : Nat → Prop) (w : World) (v : Value) (l : List (List UInt8)) : Prop := Strs w v l ∧ ∀ b o n c, v = .slice (some ⟨b, o, none⟩) n c → 0 < n → D b
theorem StrsD.same {D : Nat → Prop} {w W : World} {v : Value} {l : List (List UInt8)} (h : StrsD D w v l) (hs : Same D w W) : StrsD D W v l := by
  refine ⟨?_, h.2⟩
  obtain ⟨⟨⟨a, c, rfl, h1, h2, h3, h4, h5⟩, h6⟩, h7⟩ := h
  refine ⟨⟨a, c, rfl, h1, h2, h3, h4, fun hx => ?_⟩, h6⟩
  obtain ⟨b, off, rfl, h8⟩ := h5 hx
  refine ⟨b, off, rfl, fun j u hj => ?_⟩
  rw [hs.cell (h7 b off _ _ rfl (by rw [strsOf_length] at hx; exact hx))]
  exact h8 j u hj
theorem StrsD.mono {D E : Nat → Prop} {w : World} {v : Value} {l : List (List UInt8)} (h : StrsD D w v l) (he : ∀ b, D b → E b) : StrsD E w v l := ⟨h.1, fun b o n c e hn => he b (h.2 b o n c e hn)⟩
theorem StrsD.lt {D : Nat → Prop} {w : World} {v : Value} {l : List (List UInt8)} (h : Strs w v l) : StrsD (· < w.heap.size) w v l := by
  refine ⟨h, fun b o n c e hn => ?_⟩
  obtain ⟨⟨a, c', e2, h1, h2, h3, h4, h5⟩, h6⟩ := h
  rw [e2] at e
  obtain ⟨rfl, rfl, rfl⟩ : a = some ⟨b, o, none⟩ ∧ l.length = n ∧ c' = c := by injection e with e1 e2 e3; exact ⟨e1, e2, e3⟩
  obtain ⟨b', off, e1, h8⟩ := h5 (by rw [strsOf_length]; exact hn)
  obtain ⟨rfl, rfl⟩ : b = b' ∧ o = off := by injection e1 with e1; injection e1 with e1 e2; exact ⟨e1, e2⟩
  have := h8 0 (.string (text l[0])) (by simp [strsOf, hn])
  exact World.block_lt_of_cell? _ _ this

/-- A scope in memory, in the blocks D: the names of its own first, then those of the one that it goes on with. -/
def IsSc (D : Nat → Prop) (w : World) : Option Addr → List (List (List UInt8)) → Prop
  | p, [] => p = none
  | p, l :: ls => ∃ b po v, p = some ⟨b, 0, none⟩ ∧ D b ∧ w.cell? ⟨b, 0, none⟩ = some (.pointer po) ∧ w.cell? ⟨b, 1, none⟩ = some v ∧ w.cell? ⟨b, 2, none⟩ = some (.int .i64 ((l :: ls).flatten.length : Nat)) ∧ StrsD D w v l ∧ IsSc D w po ls
theorem IsSc.same {D : Nat → Prop} {w W : World} (hs : Same D w W) : ∀ {ls : List (List (List UInt8))} {p : Option Addr}, IsSc D w p ls → IsSc D W p ls
  | [], p, h => h
  | l :: ls, p, h => by
    obtain ⟨b, po, v, e, hb, c0, c1, c2, hv, hn⟩ := h
    exact ⟨b, po, v, e, hb, (hs.cell hb).trans c0, (hs.cell hb).trans c1, (hs.cell hb).trans c2, hv.same hs, IsSc.same hs hn⟩
theorem IsSc.mono {D E : Nat → Prop} {w : World} (he : ∀ b, D b → E b) : ∀ {ls : List (List (List UInt8))} {p : Option Addr}, IsSc D w p ls → IsSc E w p ls
  | [], p, h => h
  | l :: ls, p, h => by
    obtain ⟨b, po, v, e, hb, c0, c1, c2, hv, hn⟩ := h
    exact ⟨b, po, v, e, he b hb, c0, c1, c2, hv.mono he, IsSc.mono he hn⟩
theorem IsSc.none {D : Nat → Prop} {w : World} {ls : List (List (List UInt8))} (h : IsSc D w none ls) : ls = [] := by
  cases ls with
  | nil => rfl
  | cons l ls => obtain ⟨b, po, v, e, _⟩ := h; cases e
theorem IsSc.later {w W : World} {p : Option Addr} {ls : List (List (List UInt8))} (h : IsSc (· < w.heap.size) w p ls) (hb : Below w.heap.size w W) : IsSc (· < W.heap.size) W p ls :=
  (h.same (same_below hb)).mono fun b hb' => Nat.lt_of_lt_of_le hb' hb.size

theorem IsSc.drew {D : Nat → Prop} {w : World} {p : Option Addr} {ls : List (List (List UInt8))} (h : IsSc D w p ls) (q : Nat) : IsSc D (w.drewN q) p ls := IsSc.same (w := w) (W := w.drewN q) (fun _ _ => rfl) h

set_option maxHeartbeats 2000000 in
theorem Has_any {D : Nat → Prop} (p : Option Addr) (ls : List (List (List UInt8))) (x : List UInt8) (w : World) (hs : IsSc D w p ls) (hr : ∀ l ∈ ls, Rise l) :
    Calls Tryd.prog 20 #[.pointer p, .string (text x)] w fun e w' => e = .returned (.bool (decide (x ∈ ls.flatten))) ∧ ∃ q, w' = w.drewN q := by
  have R := hid hr
  have S := hid hs
  obtain ⟨m, hm⟩ : ∃ m, decide (x ∈ ls.flatten) = m := ⟨_, rfl⟩
  rw [hm]
  have HA := hid hm
  clear hr hs hm
  go_enter Tryd.func20, Tryd.ntmps20
  go_wp2
  go_loopg [0] ls.length (fun kx s0 wr => ∃ (k q : Nat) (pp : Option Addr), s0 = .pointer pp ∧ k ≤ ls.length ∧ ls.length - k ≤ kx ∧ wr = w.drewN q ∧ Hid (IsSc D w pp (ls.drop k) ∧ x ∉ (ls.take k).flatten))
  case atStart => exact ⟨0, 0, p, rfl, Nat.zero_le _, by omega, rfl, hid ⟨by rw [List.drop_zero]; exact S.out, by simp⟩⟩
  case round =>
    obtain ⟨k, q, pp, rfl, hk, hg, rfl, I⟩ := hrel
    by_cases hl : k < ls.length
    · have hI := I.out
      have hd := List.drop_eq_getElem_cons hl
      rw [hd] at hI
      obtain ⟨⟨b, po, v, rfl, hb, c0, c1, c2, hv, hn⟩, hx⟩ := hI
      have d0 : ∀ n, (w.drewN n).cell? ⟨b, 0, none⟩ = some (.pointer po) := fun _ => c0
      have d1 : ∀ n, (w.drewN n).cell? ⟨b, 1, none⟩ = some v := fun _ => c1
      have HB := hid (BinarySearch_any v ls[k] x (w.drewN q) (Row.later hv.1 fun _ _ _ => rfl) (R.out _ (List.getElem_mem hl)))
      have HN := hid hn
      have HX := hid hx
      have HD := hid hd
      clear c0 c1 c2 hv hn hx hb hd I
      by_cases hm : x ∈ ls[k]
      · rw [decide_eq_true hm] at HB
        have hall : decide (x ∈ ls.flatten) = true := decide_eq_true (List.mem_flatten.2 ⟨_, List.getElem_mem hl, hm⟩)
        obtain rfl : m = true := HA.out.symm.trans hall
        clear hall hm
        go_wp2_with (go_at_call 33; refine HB.out.mono ?_; rintro e w' ⟨r, rfl, nq, rfl⟩)
        go_ret
        exact ⟨rfl, q + nq, rfl⟩
      · rw [decide_eq_false hm] at HB
        have HM := hid hm
        clear hm
        go_wp2_with (go_at_call 33; refine HB.out.mono ?_; rintro e w' ⟨r, rfl, nq, rfl⟩)
        go_roundg (ls.length - (k + 1))
        case measure => omega
        case rel =>
          refine ⟨k + 1, q + nq, po, rfl, hl, Nat.le_refl _, rfl, hid ⟨HN.out, ?_⟩⟩
          rw [List.take_succ_eq_append_getElem hl, List.flatten_append]
          intro h
          rcases List.mem_append.1 h with h | h
          · exact HX.out h
          · simp at h; exact HM.out h
    · have hI := I.out
      rw [List.drop_of_length_le (by omega)] at hI
      obtain rfl : pp = none := hI.1
      have hall : decide (x ∈ ls.flatten) = false := by
        apply decide_eq_false
        have := hI.2
        rwa [List.take_of_length_le (by omega)] at this
      obtain rfl : m = false := HA.out.symm.trans hall
      clear hall hI I
      go_wp2
      go_ret
      exact ⟨rfl, q, rfl⟩
end Go.Proofs.YthggoohchjifnaaDoor.Sc
