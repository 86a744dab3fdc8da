/- Layer 10: contracts of slices.Equal, alike and Same. | Layer 10: the document's among, Within. | Layer 10: the walk of ExprParts. | Layer 10: the document's Scoped and Free. | Layer 10: the document's Check: what is right by it is of the right shape. | Layer 10: the document's text and form, in full: what they let through is as the chapter asks. | Layer 10: the document's parts and named, in full. | Layer 10: the document's form, in full. | Layer 10: the document's check and Check. | Layer 10: the document's check and Check, in full: what is right by it is right by the chapter. -/
import Derived.Test.YtkmdclfkmmlloaaGreatDoorXpS
import Derived.Test.YtkmdclfkmmlloaaGreatDoorXbS
import Derived.Deep.RegionHeld3
import Derived.Test.YtkmdclfkmmlloaaGreatDoorXpG
import Derived.Deep.CutBlock
import Derived.Deep.RegionLaw
import Derived.Test.YtkmdclfkmmlloaaGreatDoorXbT
import Derived.Test.YtkmdclfkmmlloaaGreatDoorXpK
import Derived.Test.YtkmdclfkmmlloaaGreatDoorXbP
import Derived.StillTailTactics
set_option linter.unusedVariables false
set_option linter.unusedSimpArgs false
namespace Go.Proofs.YtkmdclfkmmlloaaGreatDoor.Xp
open Go Go.Proofs.YtkmdclfkmmlloaaGreatDoor Go.RowKit
set_option maxRecDepth 100000
theorem bdrew (w : World) (q : Nat) : Below w.heap.size w (w.drewN q) := ⟨rfl, rfl, rfl, Nat.le_refl _, fun _ _ => rfl⟩
theorem bdrewB {B : Nat} {V w : World} (h : Below B V w) (q : Nat) : Below B V (w.drewN q) := ⟨h.os, h.tape, h.output, h.size, h.block⟩
/-- Two ways that have nothing in common. -/
def Apart (sa ta : Nat) (va : Value) (sb tb : Nat) (vb : Value) : Prop := ∀ c, (c = sa ∨ Act ta va c) → ¬ (c = sb ∨ Act tb vb c)
theorem act_next {tb : Nat} {v v' : Value} {w : World} (h : ∀ c, v'.ownBlock = some c → v.ownBlock = some c ∨ w.heap.size ≤ c) {c : Nat} (hc : Act tb v' c) : Act tb v c ∨ w.heap.size ≤ c := by
  rcases hc with hc | hc
  · exact .inl (.inl hc)
  · rcases h c hc with h | h
    · exact .inl (.inr h)
    · exact .inr h
theorem Apart.left {V w : World} {sa ta sb tb : Nat} {va va' vb : Value} {q : List (List Ex)} (h : Apart sa ta va sb tb vb) (hb : Trail V sb tb vb q w) (hf : ∀ c, va'.ownBlock = some c → va.ownBlock = some c ∨ w.heap.size ≤ c) : Apart sa ta va' sb tb vb := by
  intro c hc hd
  have hl : c < w.heap.size := by
    rcases hd with rfl | hd
    · exact hb.top.2.1
    · exact (hb.act hd).2.1
  rcases hc with hc | hc
  · exact h c (.inl hc) hd
  · rcases act_next hf hc with hc | hc
    · exact h c (.inr hc) hd
    · omega
theorem Apart.symm {sa ta sb tb : Nat} {va vb : Value} (h : Apart sa ta va sb tb vb) : Apart sb tb vb sa ta va := fun c hc hd => h c hd hc
theorem Apart.keep {V w w' : World} {sa ta sb tb : Nat} {va vb : Value} {r q : List (List Ex)} (h : Apart sa ta va sb tb vb) (ha : Trail V sa ta va r w) (hb : Trail V sb tb vb q w) (hk : Keep (Act tb vb) w w') : Trail V sa ta va r w' :=
  ha.keep hk fun c hc => ⟨(hb.act hc).1, fun e => h c (.inl e) (.inr hc), fun e => h c (.inr e) (.inr hc)⟩
end Go.Proofs.YtkmdclfkmmlloaaGreatDoor.Xp
namespace Go.Proofs.YtkmdclfkmmlloaaGreatDoor.Xp
open Go Go.Proofs.YtkmdclfkmmlloaaGreatDoor Go.Proofs.YtkmdclfkmmlloaaGreatDoor.Utf Go.Proofs.YtkmdclfkmmlloaaGreatDoor.Names Go.Proofs.YtkmdclfkmmlloaaGreatDoor.Sc Go.RowKit
set_option maxRecDepth 100000
set_option maxHeartbeats 1000000 in
theorem Among_any (v : Value) (l : List (List UInt8)) (x : List UInt8) (w : World) (hv : Strs w v l) :
    Calls Tryz.prog 47 #[.string (text x), v] w fun e w' => e = .returned (.bool (decide (x ∈ l))) ∧ w' = w := by
  have hle := hv.le
  have hlen := fun W => hv.len (P := Tryz.prog) 22 3 9 Tryz.underlying22 W
  have V := hid hv
  obtain ⟨m, hm⟩ : ∃ m, decide (x ∈ l) = m := ⟨_, rfl⟩
  rw [hm]
  have HM := hid hm
  clear hv hm
  go_enter Tryz.func47, Tryz.ntmps47
  go_wp2
  go_loopg [5] l.length (fun kx s5 wr => ∃ i : Nat, s5 = .int .i64 i ∧ i ≤ l.length ∧ l.length - i ≤ kx ∧ w = wr ∧ Hid (x ∉ l.take i))
  case atStart => exact ⟨0, rfl, Nat.zero_le _, by omega, rfl, hid (by simp)⟩
  case round =>
    obtain ⟨i, rfl, hi, hg, rfl, I⟩ := hrel
    by_cases hil : i < l.length
    · obtain ⟨b, o, hix, hcl⟩ := V.out.at (P := Tryz.prog) i hil 22 9 undS sizS
      have hq := teq l[i] x
      by_cases he : l[i] = x
      · rw [decide_eq_true he] at hq
        have hmm : m = true := by rw [← HM.out]; exact decide_eq_true (he ▸ List.getElem_mem hil)
        subst hmm
        clear he
        generalize text l[i] = ty at *
        go_wp2
        go_ret
        exact ⟨rfl, rfl⟩
      · rw [decide_eq_false he] at hq
        have HE := hid he
        clear he
        generalize text l[i] = ty at *
        go_wp2
        go_roundg (l.length - (i + 1))
        case measure => omega
        case rel =>
          refine ⟨i + 1, by go_num, by omega, Nat.le_refl _, rfl, hid ?_⟩
          rw [List.take_succ_eq_append_getElem hil]
          intro h
          rcases List.mem_append.1 h with h | h
          · exact I.out h
          · simp at h; exact HE.out h.symm
    · have hmm : m = false := by
        rw [← HM.out]
        have := I.out
        rw [List.take_of_length_le (by omega)] at this
        exact decide_eq_false this
      subst hmm
      clear I
      go_wp2
      go_ret
      exact ⟨rfl, rfl⟩
end Go.Proofs.YtkmdclfkmmlloaaGreatDoor.Xp
namespace Go.Proofs.YtkmdclfkmmlloaaGreatDoor.Xp
open Go Go.Proofs.YtkmdclfkmmlloaaGreatDoor Go.Proofs.YtkmdclfkmmlloaaGreatDoor.Utf Go.Proofs.YtkmdclfkmmlloaaGreatDoor.Names Go.Proofs.YtkmdclfkmmlloaaGreatDoor.Sc Go.RowKit
set_option maxRecDepth 100000
theorem mass_part {e : Ex} {i : Nat} (h : i < e.l.length) : e.l[i].mass ≤ e.mass := by
  have := massL_mem (List.getElem_mem h)
  rw [mass_eq e]; omega
end Go.Proofs.YtkmdclfkmmlloaaGreatDoor.Xp
namespace Go.Proofs.YtkmdclfkmmlloaaGreatDoor.Xp
open Go Go.Proofs.YtkmdclfkmmlloaaGreatDoor Go.Proofs.YtkmdclfkmmlloaaGreatDoor.Utf Go.Proofs.YtkmdclfkmmlloaaGreatDoor.Names Go.Proofs.YtkmdclfkmmlloaaGreatDoor.Sc Go.RowKit
set_option maxRecDepth 100000
mutual
theorem fr_len : ∀ (e : Ex) (B : List Nam), (fr e B).length ≤ e.size
  | .mk k s nm l, B => by
    have := frL_len k s nm l 0 B
    simp only [fr, Ex.size, List.length_append]
    split
    · rw [List.length_singleton]; omega
    · rw [List.length_nil]; omega
theorem frL_len (k : Int) (s : Nam) (nm : List Nam) : ∀ (l : List Ex) (i : Nat) (B : List Nam), (frL k s nm l i B).length ≤ sizeL l
  | [], i, B => by simp [frL]
  | p :: ps, i, B => by
    have h1 := fr_len p (bro k s nm i ++ B)
    have h2 := frL_len k s nm ps (i + 1) (bro k s nm i ++ B)
    simp only [frL, sizeL, List.length_append]
    omega
end
theorem nodup_few {L F : List Nam} (h : L.Nodup) (hs : ∀ z ∈ L, z ∈ F) : L.length ≤ F.length := by
  have h1 := few_nodup h
  have h2 := few_mono hs
  have h3 := few_le F
  omega
theorem Shp.right : ∀ (N : Nat) (e : Ex) (B : List Nam) (z : Nam), e.size ≤ N → Shp e → z ∈ fr e B → rightB z = true := by
  intro N
  induction N with
  | zero => intro e B z h; have := e.size_pos; omega
  | succ N ih =>
    intro e B z hN hs hz
    obtain ⟨k, s, nm, l⟩ := e
    obtain ⟨p2, _, p3, pl⟩ := hs.parts
    rcases (fr_parts k s nm l p2 B z).1 hz with ⟨hk, _, rfl⟩ | ⟨j, hj, h⟩
    · exact p3 hk
    · refine ih _ _ z ?_ (pl _ (List.getElem_mem hj)) h
      have := sizeL_mem (List.getElem_mem hj)
      simp only [Ex.size] at hN
      omega
theorem part_mass {k : Int} {s : Nam} {nm : List Nam} {l : List Ex} {j : Nat} (hj : j < l.length) : l[j].mass ≤ (Ex.mk k s nm l).mass := by
  have := massL_mem (List.getElem_mem hj)
  simp only [Ex.mass]
  omega
/-- Names that are told so far. -/
def Told (k : Int) (s : Nam) (nm : List Nam) (l : List Ex) (B : List Nam) (i : Nat) (L : List Nam) : Prop :=
  Rise L ∧ ∀ z, z ∈ L ↔ (k = 3 ∧ s ∉ B ∧ z = s) ∨ ∃ j, ∃ h : j < l.length, j < i ∧ z ∈ fr l[j] (wth k s nm j B)
theorem Told.few {k : Int} {s : Nam} {nm : List Nam} {l : List Ex} {B L : List Nam} {i : Nat} (h : Told k s nm l B i L) (h2 : k = 9 ∨ k = 12 ∨ k = 13 ∨ k = 14 → l.length = 2) : L.length ≤ (Ex.mk k s nm l).size := by
  refine Nat.le_trans (nodup_few h.1.nodup fun z hz => ?_) (fr_len (.mk k s nm l) B)
  rw [fr_parts k s nm l h2]
  rcases (h.2 z).1 hz with q | ⟨j, hj, _, q⟩
  · exact .inl q
  · exact .inr ⟨j, hj, q⟩
theorem Told.step {k : Int} {s : Nam} {nm : List Nam} {l : List Ex} {B L F : List Nam} {i : Nat} (hi : i < l.length) (h : Told k s nm l B i L) (hF : ∀ z, z ∈ F ↔ z ∈ fr l[i] (wth k s nm i B)) : Told k s nm l B (i + 1) (put L F) := by
  refine ⟨put_rise F h.1, fun z => ?_⟩
  rw [put_mem, h.2, hF]
  constructor
  · rintro ((q | ⟨j, hj, hji, q⟩) | q)
    · exact .inl q
    · exact .inr ⟨j, hj, by omega, q⟩
    · exact .inr ⟨i, hi, by omega, q⟩
  · rintro (q | ⟨j, hj, hji, q⟩)
    · exact .inl (.inl q)
    · by_cases e : j = i
      · subst e; exact .inr q
      · exact .inl (.inr ⟨j, hj, by omega, q⟩)
end Go.Proofs.YtkmdclfkmmlloaaGreatDoor.Xp
namespace Go.Proofs.YtkmdclfkmmlloaaGreatDoor.Xp
open Go Go.Proofs.YtkmdclfkmmlloaaGreatDoor Go.Proofs.YtkmdclfkmmlloaaGreatDoor.Utf Go.Proofs.YtkmdclfkmmlloaaGreatDoor.Names Go.Proofs.YtkmdclfkmmlloaaGreatDoor.Sc Go.RowKit
set_option maxRecDepth 100000
def partsN (k : Int) : Int :=
  if k = 0 ∨ k = 1 ∨ k = 2 ∨ k = 3 then 0
  else if k = 4 ∨ k = 8 ∨ k = 15 ∨ k = 19 then 1
  else if k = 5 ∨ k = 7 ∨ k = 9 ∨ k = 12 ∨ k = 13 ∨ k = 14 ∨ k = 18 then 2
  else if k = 6 ∨ k = 11 then 3
  else if k = 10 then -2
  else -1
theorem read_good {q d : List UInt8} {z : Nat} (h0 : Num.readE q = 0) (hv : Num.readV q = (d, z)) (hq : q.length ≤ 1000000) : Num.AllD d ∧ d ≠ [] ∧ d.length ≤ 1000000 ∧ z ≤ 1000000 := by
  have hvy : Num.readV q = Num.canon (Num.whole q ++ Num.part q) (Num.part q).length := by unfold Num.readV; rw [if_pos h0]
  rw [hv] at hvy
  have hall : Num.AllD (Num.whole q ++ Num.part q) ∧ Num.whole q ++ Num.part q ≠ [] := by
    unfold Num.readE at h0
    split at h0
    · cases h0
    · rename_i c
      by_cases hp : Num.pointed q = true
      · have h1 : Num.digs (Num.part q) = true := by
          cases hd : Num.digs (Num.part q) with
          | true => rfl
          | false => exact absurd (.inl ⟨hp, .inr hd⟩) c
        obtain ⟨a1, a2⟩ := (Num.digs_iff _).1 h1
        refine ⟨Num.AllD.app ?_ a1, fun e => a2 (List.append_eq_nil_iff.1 e).2⟩
        by_cases hw : Num.whole q = []
        · rw [hw]; exact Num.AllD.nil
        · have h2 : Num.digs (Num.whole q) = true := by
            cases hd : Num.digs (Num.whole q) with
            | true => rfl
            | false => exact absurd (.inl ⟨hp, .inl ⟨hw, hd⟩⟩) c
          exact ((Num.digs_iff _).1 h2).1
      · have hpf : Num.pointed q = false := by simpa using hp
        have h2 : Num.digs (Num.whole q) = true := by
          cases hd : Num.digs (Num.whole q) with
          | true => rfl
          | false => exact absurd (.inr ⟨hpf, hd⟩) c
        obtain ⟨a1, a2⟩ := (Num.digs_iff _).1 h2
        have hpart : Num.part q = [] := by
          unfold Num.pointed at hpf
          have := of_decide_eq_false hpf
          unfold Num.part
          exact List.drop_eq_nil_of_le (by omega)
        rw [hpart, List.append_nil]
        exact ⟨a1, a2⟩
  have hi := Num.canon_is hall.1 (Num.part q).length
  have hl := Num.canon_len _ (Num.part q).length hall.2
  have h1 := Num.whole_len q
  have h2 := Num.part_len q
  have h3 := Num.point_le q
  rw [← hvy] at hi hl
  rw [List.length_append] at hl
  simp only at hl
  exact ⟨hi.1, hi.2.1, by omega, by omega⟩
theorem num_cells {w : World} {b : Nat} {d : List UInt8} {z : Int} (h : w.heap[b]? = some (.cells #[.string (text d), .int .i64 z] 129)) :
    w.cell? ⟨b, 0, none⟩ = some (.string (text d)) ∧ w.cell? ⟨b, 1, none⟩ = some (.int .i64 z) := by
  refine ⟨?_, ?_⟩ <;> (rw [Lib.cell_of_heap h]; rfl)
/-- As many parts as a kind's scopes ask. -/
def ShapeOk (k : Int) (m n : Nat) : Prop := (k = 9 ∨ k = 12 ∨ k = 13 ∨ k = 14 → n = 2) ∧ (k = 17 → m = n)
def FormGot (k : Int) (m n : Nat) (r : Ending) : Prop := ∃ b : Bool, r = .returned (.bool b) ∧ (b = true → ShapeOk k m n)
theorem FormGot.mk' {k : Int} {m n : Nat} {r : Ending} {b : Bool} (h : r = .returned (.bool b)) (h2 : b = true → ShapeOk k m n) : FormGot k m n r := ⟨b, h, h2⟩
end Go.Proofs.YtkmdclfkmmlloaaGreatDoor.Xp
namespace Go.Proofs.YtkmdclfkmmlloaaGreatDoor.Xp
open Go Go.Proofs.YtkmdclfkmmlloaaGreatDoor Go.Proofs.YtkmdclfkmmlloaaGreatDoor.Utf Go.Proofs.YtkmdclfkmmlloaaGreatDoor.Names Go.Proofs.YtkmdclfkmmlloaaGreatDoor.Sc Go.RowKit
set_option maxRecDepth 100000
/-- S is as its kind asks, where it is neither a name nor a text. -/
def TextOk (k : Int) (s : Nam) : Prop := (k = 0 → formB s = true) ∧ (k = 2 → s ∈ consts) ∧ (k = 5 → s ∈ bins) ∧ (k = 18 → s ∈ spans) ∧ (k = 19 → s ∈ tests) ∧ (k ≠ 0 → k ≠ 2 → k ≠ 5 → k ≠ 18 → k ≠ 19 → s = [])
theorem read_digits {r : List UInt8} (h : Num.readE r = 0) : Num.AllD (Num.whole r ++ Num.part r) := by
  unfold Num.readE at h
  split at h
  · cases h
  · rename_i c
    cases hp : Num.pointed r with
    | true =>
      have h2 : Num.digs (Num.part r) = true := by
        cases hd : Num.digs (Num.part r) with
        | true => rfl
        | false => exact absurd (.inl ⟨hp, .inr hd⟩) c
      refine Num.AllD.app ?_ ((Num.digs_iff _).1 h2).1
      by_cases hw : Num.whole r = []
      · rw [hw]; exact Num.AllD.nil
      · have h3 : Num.digs (Num.whole r) = true := by
          cases hd : Num.digs (Num.whole r) with
          | true => rfl
          | false => exact absurd (.inl ⟨hp, .inl ⟨hw, hd⟩⟩) c
        exact ((Num.digs_iff _).1 h3).1
    | false =>
      have h3 : Num.digs (Num.whole r) = true := by
        cases hd : Num.digs (Num.whole r) with
        | true => rfl
        | false => exact absurd (.inr ⟨hp, hd⟩) c
      have hpt : Num.part r = [] := by
        unfold Num.pointed at hp
        have := of_decide_eq_false hp
        unfold Num.part
        exact List.drop_eq_nil_of_le (by omega)
      rw [hpt, List.append_nil]
      exact ((Num.digs_iff _).1 h3).1
theorem read_fix {s : List UInt8} (h0 : Num.readE s = 0) : Num.canon (Num.readV s).1 (Num.readV s).2 = Num.readV s := by
  have hv : Num.readV s = Num.canon (Num.whole s ++ Num.part s) (Num.part s).length := by unfold Num.readV; rw [if_pos h0]
  obtain ⟨⟨d, z⟩, hd⟩ : ∃ v, Num.readV s = v := ⟨_, rfl⟩
  rw [hd] at hv ⊢
  refine Num.canon_fix ?_
  have hall : Num.IsC (Num.canon (Num.whole s ++ Num.part s) (Num.part s).length) := Num.canon_is (read_digits h0) _
  rw [← hv] at hall
  exact hall
theorem textN_read {s : List UInt8} (h0 : Num.readE s = 0) : textN (Num.readV s) = Num.textV (Num.readV s) := by
  unfold textN
  rw [if_pos (Fp.read_canon h0), Int.toNat_natCast, read_fix h0]
/-- A nought ahead of a point plays no part. -/
theorem read_nought {d : List UInt8} (h0 : Num.readE (48 :: 46 :: d) = 0) : Num.readE (46 :: d) = 0 ∧ Num.readV (46 :: d) = Num.readV (48 :: 46 :: d) := by
  have p1 : Num.point (48 :: 46 :: d) = 1 := by rw [Num.point_no _ (by decide), Num.point_yes _ rfl]
  have p2 : Num.point (46 :: d) = 0 := Num.point_yes _ rfl
  have w1 : Num.whole (48 :: 46 :: d) = [48] := by unfold Num.whole; rw [p1]; rfl
  have w2 : Num.whole (46 :: d) = [] := by unfold Num.whole; rw [p2]; rfl
  have q1 : Num.part (48 :: 46 :: d) = d := by unfold Num.part; rw [p1]; rfl
  have q2 : Num.part (46 :: d) = d := by unfold Num.part; rw [p2]; rfl
  have t1 : Num.pointed (48 :: 46 :: d) = true := by unfold Num.pointed; rw [p1]; simp
  have t2 : Num.pointed (46 :: d) = true := by unfold Num.pointed; rw [p2]; simp
  have hE : Num.readE (46 :: d) = 0 := by
    unfold Num.readE at h0 ⊢
    rw [w1, q1, t1] at h0
    rw [w2, q2, t2]
    split at h0
    · cases h0
    · rename_i c
      split at h0
      · cases h0
      · rename_i c2
        rw [if_neg, if_neg]
        · simp only [List.length_nil, List.length_cons] at c2 ⊢; omega
        · rintro (⟨_, ⟨h, _⟩ | h⟩ | ⟨h, _⟩)
          · exact h rfl
          · exact c (.inl ⟨rfl, .inr h⟩)
          · cases h
  refine ⟨hE, ?_⟩
  unfold Num.readV
  rw [if_pos hE, if_pos h0, w1, w2, q1, q2]
  show Num.canon ([] ++ d) _ = Num.canon (48 :: d) _
  rw [Num.canon_cons]; rfl
theorem form_read {s : List UInt8} (h0 : Num.readE s = 0) (ht : Num.textV (Num.readV s) = s) : formB s = true := by
  unfold formB
  simp only [decide_eq_true_eq]
  by_cases c : s.take 2 = [48, 46]
  · rw [if_pos c]
    obtain ⟨d, rfl⟩ : ∃ d, s = 48 :: 46 :: d := by
      match s, c with
      | a :: b :: d, c =>
        simp only [List.take_succ_cons, List.take_zero, List.cons.injEq, and_true] at c
        exact ⟨d, by rw [c.1, c.2]⟩
    obtain ⟨h1, h2⟩ := read_nought h0
    show Num.readE (46 :: d) = 0 ∧ textN (Num.readV (46 :: d)) = _
    exact ⟨h1, by rw [h2, textN_read h0, ht]⟩
  · rw [if_neg c]
    exact ⟨h0, by rw [textN_read h0, ht]⟩
theorem textOk_at {k : Int} {s : Nam} (h : k = 0 ∧ formB s = true ∨ k = 2 ∧ s ∈ consts ∨ k = 5 ∧ s ∈ bins ∨ k = 18 ∧ s ∈ spans ∨ k = 19 ∧ s ∈ tests ∨ (k ≠ 0 ∧ k ≠ 2 ∧ k ≠ 5 ∧ k ≠ 18 ∧ k ≠ 19 ∧ s = [])) : TextOk k s := by
  unfold TextOk
  rcases h with ⟨rfl, h⟩ | ⟨rfl, h⟩ | ⟨rfl, h⟩ | ⟨rfl, h⟩ | ⟨rfl, h⟩ | ⟨h1, h2, h3, h4, h5, h⟩
  · exact ⟨fun _ => h, by omega, by omega, by omega, by omega, by omega⟩
  · exact ⟨by omega, fun _ => h, by omega, by omega, by omega, by omega⟩
  · exact ⟨by omega, by omega, fun _ => h, by omega, by omega, by omega⟩
  · exact ⟨by omega, by omega, by omega, fun _ => h, by omega, by omega⟩
  · exact ⟨by omega, by omega, by omega, by omega, fun _ => h, by omega⟩
  · exact ⟨by omega, by omega, by omega, by omega, by omega, fun _ _ _ _ _ => h⟩
set_option maxHeartbeats 8000000 in
theorem text_full (e : Ex) (ao : Option Addr) (an ac : Nat) (po : Option Addr) (pn pc : Nat) (w : World) (h : IsE w e (.slice ao an ac) (.slice po pn pc)) (hm : e.s.length ≤ 1000000) :
    Calls Tryz.prog 83 #[exV e (.slice ao an ac) (.slice po pn pc)] w fun r w' => (∃ b : Bool, r = .returned (.bool b) ∧ (b = true → TextOk e.kind e.s)) ∧ Below w.heap.size w w' := by
  obtain ⟨k, s, nm, l⟩ := e
  simp only [Ex.s] at hm
  have B1 := ba (b0 w) (.cells #[.int .i64 k, .string (text s), .slice ao an ac, .slice po pn pc] 25)
  have P1 := heap_alloc_new w (.cells #[.int .i64 k, .string (text s), .slice ao an ac, .slice po pn pc] 25)
  obtain ⟨V, hV⟩ : ∃ V, w.alloc (.cells #[.int .i64 k, .string (text s), .slice ao an ac, .slice po pn pc] 25) = V := ⟨_, rfl⟩
  rw [hV] at B1 P1
  have HB := hid B1
  have HP := hid P1
  have AM := hid (fun (W : World) (v : Value) (M : List Nam) (hv : Strs W v M) => (Among_any v M s W hv).mono (R' := fun r w' => (∃ b : Bool, r = .returned (.bool b) ∧ (b = true → s ∈ M)) ∧ w' = W) (by
    rintro r w' ⟨rfl, hw⟩
    exact ⟨⟨_, rfl, fun h => of_decide_eq_true h⟩, hw⟩))
  obtain ⟨a0, a1, a2, a3⟩ := box_cells P1
  unfold exV
  simp only [Ex.kind, Ex.s]
  clear h B1 P1
  by_cases h0 : k = 0
  · subst h0
    obtain ⟨ne, hne⟩ : ∃ ne, Num.readE s = ne := ⟨_, rfl⟩
    obtain ⟨⟨d, z⟩, hv⟩ : ∃ v, Num.readV s = v := ⟨_, rfl⟩
    have HRD := Num.RRead_any s (by omega) V
    rw [show Num.RReadA s = .tuple #[.agg #[.string (text d), .int .i64 (z : Int)], .int .i64 (ne : Int)] from by unfold Num.RReadA; rw [hne, hv]; rfl] at HRD
    replace HRD := hid HRD
    by_cases hn0 : ne = 0
    · subst hn0
      have HT : Hid (∀ W, Calls Tryz.prog 122 #[Num.numV (d, z)] W fun e w' => e = .returned (.string (text (Num.textV (d, z)))) ∧ Below W.heap.size W w') := hid (fun W => by
        obtain ⟨g1, g2, g3, g4⟩ := read_good hne hv (by omega)
        have := Num.RText_any d z g3 g4 g1 g2 W
        have hf := read_fix hne
        rw [hv] at hf
        simp only at hf
        rw [hf] at this
        exact this)
      have HFR := hid (fun (q : Num.textV (d, z) = s) => form_read hne (by rw [hv]; exact q))
      obtain ⟨tt, htt⟩ : ∃ tt, Num.textV (d, z) = tt := ⟨_, rfl⟩
      rw [htt] at HT HFR
      unfold Num.numV Num.numZ at HT
      clear htt
      clear hne hv
      go_enter Tryz.func83, Tryz.ntmps83
      go_wp2_with fail
      refine HRD.out.mono ?_
      rintro r w1 ⟨rfl, hb1⟩
      obtain ⟨Y, hY⟩ : ∃ Y, w1.alloc (.cells #[.string (text d), .int .i64 (z : Int)] 129) = Y := ⟨_, rfl⟩
      have BY : Below w1.heap.size w1 Y := hY ▸ ba (b0 w1) _
      have PY : Y.heap[w1.heap.size]? = some (.cells #[.string (text d), .int .i64 (z : Int)] 129) := hY ▸ heap_alloc_new w1 _
      have HVY := hid (bt hb1 BY)
      have HPY := hid PY
      have HS := hid (show ∀ Z, Below Y.heap.size Y Z → (Below Y.heap.size Y Z ∧ Z.cell? ⟨w.heap.size, 0, none⟩ = some (.int .i64 0) ∧ Z.cell? ⟨w.heap.size, 1, none⟩ = some (.string (text s)) ∧ Z.cell? ⟨w.heap.size, 2, none⟩ = some (.slice ao an ac) ∧ Z.cell? ⟨w.heap.size, 3, none⟩ = some (.slice po pn pc) ∧ Z.cell? ⟨w1.heap.size, 0, none⟩ = some (.string (text d)) ∧ Z.cell? ⟨w1.heap.size, 1, none⟩ = some (.int .i64 z)) from fun Z hZ => by
        obtain ⟨a0, a1, a2, a3⟩ := box_cells (((bt HVY.out hZ).block _ (lt_of_some HP.out)).trans HP.out)
        obtain ⟨n0, n1⟩ := num_cells ((hZ.block _ (lt_of_some HPY.out)).trans HPY.out)
        exact ⟨hZ, a0, a1, a2, a3, n0, n1⟩)
      have HS0 := HS.out Y.drew (bdrew Y 1)
      clear hb1 BY PY a0 a1 a2 a3
      go_wp2_with fail
      go_region_held3 (fun Z => (Below Y.heap.size Y Z ∧ Z.cell? ⟨w.heap.size, 0, none⟩ = some (.int .i64 0) ∧ Z.cell? ⟨w.heap.size, 1, none⟩ = some (.string (text s)) ∧ Z.cell? ⟨w.heap.size, 2, none⟩ = some (.slice ao an ac) ∧ Z.cell? ⟨w.heap.size, 3, none⟩ = some (.slice po pn pc) ∧ Z.cell? ⟨w1.heap.size, 0, none⟩ = some (.string (text d)) ∧ Z.cell? ⟨w1.heap.size, 1, none⟩ = some (.int .i64 z))) (first | exact HSx | exact HS0) (first
        | (go_at_call 122
           with_reducible refine (HT.out _).mono ?_
           rintro ev wx ⟨rfl, hb⟩
           first | have HSx := HS.out _ (bt HSx.1 hb) | have HSx := HS.out _ (bt HS0.1 hb)))
      all_goals go_wp2
      all_goals go_ret
      all_goals exact ⟨⟨_, rfl, fun hq => textOk_at (.inl ⟨rfl, HFR.out (by rw [Num.text_list, Num.text_list, beq_iff_eq] at hq; exact hq)⟩)⟩, bt HB.out (bt HVY.out HSx.1)⟩
    · have hnb : ((ne : Int) == 0) = false := by rw [beq_eq_false_iff_ne]; omega
      have hnb2 : (ne == 0) = false := by rw [beq_eq_false_iff_ne]; exact hn0
      clear hne hv hn0
      go_enter Tryz.func83, Tryz.ntmps83
      go_wp2_with fail
      refine HRD.out.mono ?_
      rintro r w1 ⟨rfl, hb1⟩
      have HB1 := hid (bt HB.out (ba hb1 (.cells #[.string (text d), .int .i64 (z : Int)] 129)))
      clear hb1
      go_wp2_with fail
      go_quiet (fail)
      go_wp2
      go_ret
      exact ⟨⟨_, rfl, fun hq => by cases hq⟩, bdrewB HB1.out _⟩
  · have hb0 : (k == 0) = false := by rw [beq_eq_false_iff_ne]; exact h0
    have H0 := hid h0
    clear h0
    have hlit : ∀ (W : World) (cs : List Nam), cs.length ≤ 20 → Row 1 (W.alloc (.cells (strsOf cs).toArray 9)) (.slice (some ⟨W.heap.size, 0, none⟩) cs.length cs.length) cs.length (strsOf cs) := fun W cs hc => by
      have := Row.ofBuild (sz := 1) W (strsOf cs).toArray 9 cs.length (by rw [List.size_toArray, strsOf_length]; omega) (by omega)
      simpa using this
    by_cases h2 : k = 2
    · subst h2
      have A2 := hid (AM.out _ _ _ (hlit V [[116, 114, 117, 101], [102, 97, 108, 115, 101], [110, 117, 108, 108]] (by decide)))
      go_enter Tryz.func83, Tryz.ntmps83
      go_wp2_with fail
      refine A2.out.mono ?_
      rintro r w1 ⟨⟨b, rfl, hbb⟩, hw1⟩
      have HBB := hid hbb
      clear hbb
      have HB1 := hid (show Below w.heap.size w w1 from by rw [hw1]; exact ba HB.out _)
      clear hw1
      go_wp2
      go_ret
      exact ⟨⟨b, rfl, fun hq => textOk_at (by have hbm := HBB.out hq; exact .inr (.inl ⟨rfl, hbm⟩))⟩, HB1.out⟩
    have hb2 : (k == 2) = false := by rw [beq_eq_false_iff_ne]; exact h2
    have H2 := hid h2
    clear h2
    by_cases h5 : k = 5
    · subst h5
      have A5 := hid (AM.out _ _ _ (hlit V bins (by decide)))
      go_enter Tryz.func83, Tryz.ntmps83
      go_wp2_with fail
      refine A5.out.mono ?_
      rintro r w1 ⟨⟨b, rfl, hbb⟩, hw1⟩
      have HBB := hid hbb
      clear hbb
      have HB1 := hid (show Below w.heap.size w w1 from by rw [hw1]; exact ba HB.out _)
      clear hw1
      go_wp2
      go_ret
      exact ⟨⟨b, rfl, fun hq => textOk_at (by have hbm := HBB.out hq; exact .inr (.inr (.inl ⟨rfl, hbm⟩)))⟩, HB1.out⟩
    have hb5 : (k == 5) = false := by rw [beq_eq_false_iff_ne]; exact h5
    have H5 := hid h5
    clear h5
    by_cases h18 : k = 18
    · subst h18
      have A18 := hid (AM.out _ _ _ (hlit V spans (by decide)))
      go_enter Tryz.func83, Tryz.ntmps83
      go_wp2_with fail
      refine A18.out.mono ?_
      rintro r w1 ⟨⟨b, rfl, hbb⟩, hw1⟩
      have HBB := hid hbb
      clear hbb
      have HB1 := hid (show Below w.heap.size w w1 from by rw [hw1]; exact ba HB.out _)
      clear hw1
      go_wp2
      go_ret
      exact ⟨⟨b, rfl, fun hq => textOk_at (by have hbm := HBB.out hq; exact .inr (.inr (.inr (.inl ⟨rfl, hbm⟩))))⟩, HB1.out⟩
    have hb18 : (k == 18) = false := by rw [beq_eq_false_iff_ne]; exact h18
    have H18 := hid h18
    clear h18
    by_cases h19 : k = 19
    · subst h19
      have A19 := hid (AM.out _ _ _ (hlit V tests (by decide)))
      go_enter Tryz.func83, Tryz.ntmps83
      go_wp2_with fail
      refine A19.out.mono ?_
      rintro r w1 ⟨⟨b, rfl, hbb⟩, hw1⟩
      have HBB := hid hbb
      clear hbb
      have HB1 := hid (show Below w.heap.size w w1 from by rw [hw1]; exact ba HB.out _)
      clear hw1
      go_wp2
      go_ret
      exact ⟨⟨b, rfl, fun hq => textOk_at (by have hbm := HBB.out hq; exact .inr (.inr (.inr (.inr (.inl ⟨rfl, hbm⟩)))))⟩, HB1.out⟩
    have hb19 : (k == 19) = false := by rw [beq_eq_false_iff_ne]; exact h19
    have H19 := hid h19
    clear h19
    go_enter Tryz.func83, Tryz.ntmps83
    go_wp2
    go_ret
    exact ⟨⟨_, rfl, fun hq => textOk_at (.inr (.inr (.inr (.inr (.inr ⟨H0.out, H2.out, H5.out, H18.out, H19.out, by rw [Num.text_list] at hq; exact List.isEmpty_iff.1 hq⟩)))))⟩, HB.out⟩
end Go.Proofs.YtkmdclfkmmlloaaGreatDoor.Xp
namespace Go.Proofs.YtkmdclfkmmlloaaGreatDoor.Xp
open Go Go.Proofs.YtkmdclfkmmlloaaGreatDoor Go.Proofs.YtkmdclfkmmlloaaGreatDoor.Utf Go.Proofs.YtkmdclfkmmlloaaGreatDoor.Names Go.Proofs.YtkmdclfkmmlloaaGreatDoor.Sc Go.RowKit
set_option maxRecDepth 100000
set_option maxHeartbeats 4000000 in
theorem parts_full (k : Int) (w : World) : Calls Tryz.prog 82 #[.int .i64 k] w fun e w' => e = .returned (.int .i64 (partsN k)) ∧ w' = w := by
  by_cases hk : 0 ≤ k ∧ k ≤ 19
  · have hc : k = 0 ∨ k = 1 ∨ k = 2 ∨ k = 3 ∨ k = 4 ∨ k = 5 ∨ k = 6 ∨ k = 7 ∨ k = 8 ∨ k = 9 ∨ k = 10 ∨ k = 11 ∨ k = 12 ∨ k = 13 ∨ k = 14 ∨ k = 15 ∨ k = 16 ∨ k = 17 ∨ k = 18 ∨ k = 19 := by omega
    clear hk
    rcases hc with rfl | rfl | rfl | rfl | rfl | rfl | rfl | rfl | rfl | rfl | rfl | rfl | rfl | rfl | rfl | rfl | rfl | rfl | rfl | rfl
    all_goals
      go_enter Tryz.func82, Tryz.ntmps82
      go_wp2
      go_ret
      exact ⟨rfl, rfl⟩
  · have HN : Hid (partsN k = -1) := hid (by
      unfold partsN
      repeat rw [if_neg (by omega)])
    have q : ∀ j : Int, 0 ≤ j → j ≤ 19 → (k == j) = false := fun j h1 h2 => by rw [beq_eq_false_iff_ne]; omega
    have q0 := q 0 (by omega) (by omega)
    have q1 := q 1 (by omega) (by omega)
    have q2 := q 2 (by omega) (by omega)
    have q3 := q 3 (by omega) (by omega)
    have q4 := q 4 (by omega) (by omega)
    have q5 := q 5 (by omega) (by omega)
    have q6 := q 6 (by omega) (by omega)
    have q7 := q 7 (by omega) (by omega)
    have q8 := q 8 (by omega) (by omega)
    have q9 := q 9 (by omega) (by omega)
    have q10 := q 10 (by omega) (by omega)
    have q11 := q 11 (by omega) (by omega)
    have q12 := q 12 (by omega) (by omega)
    have q13 := q 13 (by omega) (by omega)
    have q14 := q 14 (by omega) (by omega)
    have q15 := q 15 (by omega) (by omega)
    have q18 := q 18 (by omega) (by omega)
    have q19 := q 19 (by omega) (by omega)
    clear q hk
    go_enter Tryz.func82, Tryz.ntmps82
    go_wp2
    go_ret
    exact ⟨by rw [HN.out]; rfl, rfl⟩
set_option maxHeartbeats 4000000 in
theorem rnamed_full (k : Int) (w : World) : Calls Tryz.prog 45 #[.int .i64 k] w fun e w' => e = .returned (.bool (Xp.named k)) ∧ w' = w := by
  by_cases hk : k = 3 ∨ k = 8 ∨ k = 12 ∨ k = 13 ∨ k = 14
  · rcases hk with rfl | rfl | rfl | rfl | rfl
    all_goals
      go_enter Tryz.func45, Tryz.ntmps45
      go_wp2
      go_ret
      exact ⟨rfl, rfl⟩
  · have HN : Hid (Xp.named k = false) := hid (by unfold Xp.named; exact decide_eq_false hk)
    have q3 : (k == 3) = false := by rw [beq_eq_false_iff_ne]; omega
    have q8 : (k == 8) = false := by rw [beq_eq_false_iff_ne]; omega
    have q12 : (k == 12) = false := by rw [beq_eq_false_iff_ne]; omega
    have q13 : (k == 13) = false := by rw [beq_eq_false_iff_ne]; omega
    have q14 : (k == 14) = false := by rw [beq_eq_false_iff_ne]; omega
    clear hk
    go_enter Tryz.func45, Tryz.ntmps45
    go_wp2
    go_ret
    exact ⟨by rw [HN.out]; rfl, rfl⟩
/-- What form lets through. -/
structure FormOk (k : Int) (s : Nam) (mm ll : Nat) (t : Bool) : Prop where
  parts : (0 ≤ partsN k → (ll : Int) = partsN k) ∧ (partsN k = -2 → ll ≠ 0)
  names : (k = 17 → mm = ll) ∧ (k ≠ 17 → k ≠ 15 → mm = 0)
  test : k = 19 → t = true
  txt : Xp.named k = true ∨ k = 1 ∨ TextOk k s
theorem FormOk.ok {k : Int} {s : Nam} {mm ll : Nat} {t : Bool} (h : FormOk k s mm ll t) (hk : 0 ≤ k ∧ k ≤ 19) : partsOk k ll = true ∧ namesOk k mm ll = true := by
  obtain ⟨⟨p1, p2⟩, ⟨n1, n2⟩, _, _⟩ := h
  have hc : k = 0 ∨ k = 1 ∨ k = 2 ∨ k = 3 ∨ k = 4 ∨ k = 5 ∨ k = 6 ∨ k = 7 ∨ k = 8 ∨ k = 9 ∨ k = 10 ∨ k = 11 ∨ k = 12 ∨ k = 13 ∨ k = 14 ∨ k = 15 ∨ k = 16 ∨ k = 17 ∨ k = 18 ∨ k = 19 := by omega
  constructor
  · rcases hc with rfl | rfl | rfl | rfl | rfl | rfl | rfl | rfl | rfl | rfl | rfl | rfl | rfl | rfl | rfl | rfl | rfl | rfl | rfl | rfl <;> (simp [partsN] at p1 p2; simp [partsOk]; try omega)
  · unfold namesOk
    by_cases h15 : k = 15
    · rw [if_pos h15]
    · rw [if_neg h15]
      by_cases h17 : k = 17
      · rw [if_pos h17, beq_iff_eq]; exact n1 h17
      · rw [if_neg h17, beq_iff_eq]; exact n2 h17 h15
def FormGotF (k : Int) (s : Nam) (m n : Nat) (t : Bool) (r : Ending) : Prop := ∃ b : Bool, r = .returned (.bool b) ∧ (b = true → FormOk k s m n t)
theorem FormGotF.mk' {k : Int} {s : Nam} {m n : Nat} {t : Bool} {r : Ending} {b : Bool} (h : r = .returned (.bool b)) (h2 : b = true → FormOk k s m n t) : FormGotF k s m n t r := ⟨b, h, h2⟩
end Go.Proofs.YtkmdclfkmmlloaaGreatDoor.Xp
namespace Go.Proofs.YtkmdclfkmmlloaaGreatDoor.Xp
open Go Go.Proofs.YtkmdclfkmmlloaaGreatDoor Go.Proofs.YtkmdclfkmmlloaaGreatDoor.Utf Go.Proofs.YtkmdclfkmmlloaaGreatDoor.Names Go.Proofs.YtkmdclfkmmlloaaGreatDoor.Sc Go.RowKit
set_option maxRecDepth 100000
set_option maxHeartbeats 16000000 in
theorem rform_full (e : Ex) (t : Bool) (ao : Option Addr) (an ac : Nat) (po : Option Addr) (pn pc : Nat) (w : World) (h : IsE w e (.slice ao an ac) (.slice po pn pc)) (hm : e.s.length ≤ 1000000) :
    Calls Tryz.prog 44 #[exV e (.slice ao an ac) (.slice po pn pc), .bool t] w fun r w' => FormGotF e.kind e.s e.nm.length e.l.length t r ∧ Below w.heap.size w w' := by
  obtain ⟨V, hV⟩ : ∃ V, w.alloc (.cells #[.int .i64 e.kind, .string (text e.s), .slice ao an ac, .slice po pn pc] 25) = V := ⟨_, rfl⟩
  have BV : Below w.heap.size w V := hV ▸ ba (b0 w) _
  have P2 : V.heap[w.heap.size]? = some (.cells #[.int .i64 e.kind, .string (text e.s), .slice ao an ac, .slice po pn pc] 25) := hV ▸ heap_alloc_new w _
  have hE := h.later BV
  have plen := fun X => hE.parts.2.len 3 X
  have nlen := fun X => hE.parts.1.len (P := Tryz.prog) 22 3 9 undS X
  have hpl := hE.parts.2.le
  have hnl := hE.parts.1.le
  have TX := hid (text_full e ao an ac po pn pc V hE hm)
  have PN := hid (parts_full e.kind V)
  have NM := hid (rnamed_full e.kind V)
  have HBV := hid BV
  obtain ⟨a0, a1, a2, a3⟩ := box_cells P2
  unfold exV at TX ⊢
  clear h hm BV P2 hE
  generalize e.kind = k at *
  generalize e.s = s at *
  generalize e.nm.length = mm at *
  generalize e.l.length = ll at *
  go_enter Tryz.func44, Tryz.ntmps44
  go_wp2_with fail
  refine PN.out.mono ?_
  rintro r w1 ⟨rfl, hw1⟩
  subst hw1
  obtain ⟨n, hnn⟩ : ∃ n, partsN k = n := ⟨_, rfl⟩
  rw [hnn]
  have HNN := hid hnn
  clear hnn
  obtain ⟨x1, hx1⟩ : ∃ b, decide (0 ≤ n) = b := ⟨_, rfl⟩
  obtain ⟨x2, hx2⟩ : ∃ b, ((ll : Int) != n) = b := ⟨_, rfl⟩
  have hx2' : ((ll : Int) == n) = !x2 := by rw [← hx2]; simp [bne]
  obtain ⟨x3, hx3⟩ : ∃ b, (n == -2) = b := ⟨_, rfl⟩
  obtain ⟨x4, hx4⟩ : ∃ b, ((ll : Int) == 0) = b := ⟨_, rfl⟩
  have hx4' : (ll == 0) = x4 := by
    rw [← hx4]
    by_cases e : ll = 0
    · subst e; rfl
    · have e1 : (ll == 0) = false := by rw [beq_eq_false_iff_ne]; exact e
      have e2 : ((ll : Int) == 0) = false := by rw [beq_eq_false_iff_ne]; omega
      rw [e1, e2]
  obtain ⟨x5, hx5⟩ : ∃ b, (k == 19) = b := ⟨_, rfl⟩
  have hx13 : x1 = true → x3 = false := by
    rintro rfl
    have := of_decide_eq_true hx1
    rw [← hx3, beq_eq_false_iff_ne]
    omega
  have HX1 := hid hx1
  have HX2 := hid hx2
  have HX2' := hid hx2'
  have HX3 := hid hx3
  have HX4 := hid hx4
  have HX4' := hid hx4'
  have HX5 := hid hx5
  have HX13 := hid hx13
  have HP1 : Hid ((x1 = true → x2 = false) ∧ (x3 = true → x4 = false) ∧ (x5 = true → t = true) → ((0 ≤ partsN k → (ll : Int) = partsN k) ∧ (partsN k = -2 → ll ≠ 0)) ∧ (k = 19 → t = true)) := hid (by
    rintro ⟨g1, g2, g3⟩
    rw [HNN.out]
    refine ⟨⟨fun h => ?_, fun h => ?_⟩, fun h => g3 (by rw [← hx5, beq_iff_eq]; exact h)⟩
    · have := g1 (by rw [← hx1]; exact decide_eq_true h)
      rw [this] at hx2'
      simpa using hx2'
    · have := g2 (by rw [← hx3, beq_iff_eq]; exact h)
      rw [this] at hx4'
      simpa using hx4')
  clear hx1 hx2 hx2' hx3 hx4 hx4' hx5 hx13
  go_upto_region 2 with fail
  go_cut [36] from 9 to 36 (fun c X => ∃ cb : Bool, c = .bool cb ∧ (cb = false → (x1 = true → x2 = false) ∧ (x3 = true → x4 = false) ∧ (x5 = true → t = true)) ∧ X = w1)
  case first =>
    have hx1 := HX1.out
    have hx2 := HX2.out
    have hx2' := HX2'.out
    have hx3 := HX3.out
    have hx4 := HX4.out
    have hx4' := HX4'.out
    have hx5 := HX5.out
    have hx13 := HX13.out
    clear PN NM TX HX1 HX2 HX2' HX3 HX4 HX4' HX5 HX13 HP1 HNN
    cases x1
    · clear hx13
      cases x3
      · cases x5 <;> cases t <;> (go_wp2_with fail; go_meet; exact ⟨_, rfl, by simp, rfl⟩)
      · cases x4
        · cases x5 <;> cases t <;> (go_wp2_with fail; go_meet; exact ⟨_, rfl, by simp, rfl⟩)
        · (go_wp2_with fail; go_meet; exact ⟨_, rfl, by simp, rfl⟩)
    · obtain rfl := hx13 rfl
      clear hx13
      cases x2
      · cases x5 <;> cases t <;> (go_wp2_with fail; go_meet; exact ⟨_, rfl, by simp, rfl⟩)
      · (go_wp2_with fail; go_meet; exact ⟨_, rfl, by simp, rfl⟩)
  case rest =>
    obtain ⟨cb, rfl, hcb, hWV⟩ := hcut
    have HCB1 := hid hcb
    clear hcb HX1 HX2 HX2' HX3 HX4 HX4' HX5 HX13
    have hWV := hWV.symm
    subst hWV
    rename World => V1
    cases cb with
    | true =>
      go_wp2
      go_ret
      exact ⟨.mk' (b := false) rfl (fun h => by cases h), HBV.out⟩
    | false =>
      go_upto_region 4 with fail
      obtain ⟨y1, hy1⟩ : ∃ b, (k == 17) = b := ⟨_, rfl⟩
      have hy1' : (k != 17) = !y1 := by rw [← hy1]; rfl
      obtain ⟨y2, hy2⟩ : ∃ b, ((mm : Int) != (ll : Int)) = b := ⟨_, rfl⟩
      have hy2' : ((mm : Int) == (ll : Int)) = !y2 := by rw [← hy2]; simp [bne]
      have hy2'' : (mm == ll) = !y2 := by
        rw [← hy2']
        by_cases e : mm = ll
        · subst e; simp
        · have e1 : (mm == ll) = false := by rw [beq_eq_false_iff_ne]; exact e
          have e2 : ((mm : Int) == (ll : Int)) = false := by rw [beq_eq_false_iff_ne]; omega
          rw [e1, e2]
      obtain ⟨y3, hy3⟩ : ∃ b, (k == 15) = b := ⟨_, rfl⟩
      have hy3' : (k != 15) = !y3 := by rw [← hy3]; rfl
      obtain ⟨y4, hy4⟩ : ∃ b, decide ((0 : Int) < (mm : Int)) = b := ⟨_, rfl⟩
      have hy4' : decide (0 < mm) = y4 := by
        rw [← hy4]
        by_cases e : 0 < mm
        · rw [decide_eq_true e, decide_eq_true (by omega)]
        · rw [decide_eq_false e, decide_eq_false (by omega)]
      have HY1 := hid hy1
      have HY1' := hid hy1'
      have HY2 := hid hy2
      have HY2' := hid hy2'
      have HY2'' := hid hy2''
      have HY3 := hid hy3
      have HY3' := hid hy3'
      have HY4 := hid hy4
      have HY4' := hid hy4'
      have HP2 : Hid ((y1 = true → y2 = false) ∧ (y1 = false → y3 = false → y4 = false) → (k = 17 → mm = ll) ∧ (k ≠ 17 → k ≠ 15 → mm = 0)) := hid (by
        rintro ⟨g1, g2⟩
        refine ⟨fun h => ?_, fun h1 h2 => ?_⟩
        · have := g1 (by rw [← hy1, beq_iff_eq]; exact h)
          rw [this] at hy2''
          simpa using hy2''
        · have := g2 (by rw [← hy1, beq_eq_false_iff_ne]; exact h1) (by rw [← hy3, beq_eq_false_iff_ne]; exact h2)
          rw [this] at hy4'
          have := of_decide_eq_false hy4'
          omega)
      clear hy1 hy1' hy2 hy2' hy2'' hy3 hy3' hy4 hy4'
      go_cut [64] from 37 to 64 (fun c X => ∃ cb : Bool, c = .bool cb ∧ (cb = false → (y1 = true → y2 = false) ∧ (y1 = false → y3 = false → y4 = false)) ∧ X = V1)
      case first =>
        have hy1 := HY1.out
        have hy1' := HY1'.out
        have hy2 := HY2.out
        have hy2' := HY2'.out
        have hy2'' := HY2''.out
        have hy3 := HY3.out
        have hy3' := HY3'.out
        have hy4 := HY4.out
        have hy4' := HY4'.out
        clear PN NM TX HY1 HY1' HY2 HY2' HY2'' HY3 HY3' HY4 HY4' HP2 HP1 HCB1 HNN
        cases y1
        · cases y3
          · cases y4 <;> (go_wp2_with fail; go_meet; exact ⟨_, rfl, by simp, rfl⟩)
          · (go_wp2_with fail; go_meet; exact ⟨_, rfl, by simp, rfl⟩)
        · cases y2 <;> (go_wp2_with fail; go_meet; exact ⟨_, rfl, by simp, rfl⟩)
      case rest =>
        obtain ⟨cb, rfl, hcb, hWV⟩ := hcut
        have HCB2 := hid hcb
        clear hcb HY1 HY1' HY2 HY2' HY2'' HY3 HY3' HY4 HY4'
        have hWV := hWV.symm
        subst hWV
        cases cb with
        | true =>
          go_wp2
          go_ret
          exact ⟨.mk' (b := false) rfl (fun h => by cases h), HBV.out⟩
        | false =>
          have HALL : Hid ((Xp.named k = true ∨ k = 1 ∨ TextOk k s) → FormOk k s mm ll t) := hid (fun h => by
            obtain ⟨g1, g2⟩ := HP1.out (HCB1.out rfl)
            exact ⟨g1, HP2.out (HCB2.out rfl), g2, h⟩)
          clear HP1 HP2 HCB1 HCB2 HNN
          go_wp2_with fail
          refine NM.out.mono ?_
          rintro r w2 ⟨rfl, hw2⟩
          subst hw2
          obtain ⟨nb, hnb⟩ : ∃ nb, Xp.named k = nb := ⟨_, rfl⟩
          rw [hnb]
          have HNB := hid hnb
          clear hnb
          cases nb with
          | true =>
            go_wp2
            go_ret
            exact ⟨.mk' (b := true) rfl (fun _ => HALL.out (.inl HNB.out)), HBV.out⟩
          | false =>
            obtain ⟨y1, hy1⟩ : ∃ b, (k == 1) = b := ⟨_, rfl⟩
            cases y1 with
            | true =>
              have HK1 := hid (beq_iff_eq.1 hy1)
              go_wp2
              go_ret
              exact ⟨.mk' (b := true) rfl (fun _ => HALL.out (.inr (.inl HK1.out))), HBV.out⟩
            | false =>
              go_wp2_with fail
              refine TX.out.mono ?_
              rintro r w3 ⟨⟨tb, rfl, htb⟩, hb3⟩
              have HB3 := hid (bt HBV.out hb3)
              have HTB := hid htb
              clear hb3 htb
              go_wp2
              go_ret
              exact ⟨.mk' (b := tb) rfl (fun h => HALL.out (.inr (.inr (HTB.out h)))), HB3.out⟩
end Go.Proofs.YtkmdclfkmmlloaaGreatDoor.Xp
namespace Go.Proofs.YtkmdclfkmmlloaaGreatDoor.Xp
open Go Go.Proofs.YtkmdclfkmmlloaaGreatDoor Go.Proofs.YtkmdclfkmmlloaaGreatDoor.Utf Go.Proofs.YtkmdclfkmmlloaaGreatDoor.Names Go.Proofs.YtkmdclfkmmlloaaGreatDoor.Sc Go.RowKit
set_option maxRecDepth 100000
theorem quiet0 {F : FuncId} {args : Array Value} {w : World} {r : Ending} (h : Calls Tryz.prog F args w fun e w' => e = r ∧ w' = w) : Calls Tryz.prog F args w fun e w' => e = r ∧ ∃ m, w' = w.drewN m :=
  h.mono (by rintro e w' ⟨h1, rfl⟩; exact ⟨h1, 0, rfl⟩)
end Go.Proofs.YtkmdclfkmmlloaaGreatDoor.Xp
namespace Go.Proofs.YtkmdclfkmmlloaaGreatDoor.Xp
open Go Go.Proofs.YtkmdclfkmmlloaaGreatDoor Go.Proofs.YtkmdclfkmmlloaaGreatDoor.Utf Go.Proofs.YtkmdclfkmmlloaaGreatDoor.Names Go.Proofs.YtkmdclfkmmlloaaGreatDoor.Sc Go.RowKit
set_option maxRecDepth 100000
theorem txt_of {k : Int} {s : Nam} (h : Xp.named k = true ∨ k = 1 ∨ TextOk k s) (hn : Xp.named k = true → rightB s = true) (hu : k = 1 → Utf.check s = s.length) : txt k s = 0 := by
  unfold txt
  by_cases h0 : k = 0
  · subst h0
    rcases h with h | h | h
    · exact absurd h (by decide)
    · omega
    · rw [if_pos rfl, h.1 rfl]; rfl
  rw [if_neg h0]
  by_cases h1 : k = 1
  · rw [if_pos h1]
    unfold Utf.checkE
    rw [if_pos (hu h1)]
  rw [if_neg h1]
  by_cases h2 : k = 2
  · subst h2
    rcases h with h | h | h
    · exact absurd h (by decide)
    · omega
    · rw [if_pos rfl, if_pos (h.2.1 rfl)]
  rw [if_neg h2]
  by_cases h5 : k = 5
  · subst h5
    rcases h with h | h | h
    · exact absurd h (by decide)
    · omega
    · rw [if_pos rfl, if_pos (h.2.2.1 rfl)]
  rw [if_neg h5]
  by_cases h18 : k = 18
  · subst h18
    rcases h with h | h | h
    · exact absurd h (by decide)
    · omega
    · rw [if_pos rfl, if_pos (h.2.2.2.1 rfl)]
  rw [if_neg h18]
  by_cases h19 : k = 19
  · subst h19
    rcases h with h | h | h
    · exact absurd h (by decide)
    · omega
    · rw [if_pos rfl, if_pos (h.2.2.2.2.1 rfl)]
  rw [if_neg h19]
  by_cases hm : Xp.named k = true
  · rw [if_pos hm, hn hm]; rfl
  · rw [if_neg hm]
    rcases h with h | h | h
    · exact absurd h hm
    · exact absurd h h1
    · rw [if_pos (h.2.2.2.2.2 h0 h2 h5 h18 h19)]
theorem chk_of {k : Int} {s : Nam} {nm : List Nam} {l : List Ex} {t : Bool} (hk : 0 ≤ k ∧ k ≤ 19) (hf : FormOk k s nm.length l.length t) (hn : Xp.named k = true → rightB s = true) (hu : k = 1 → Utf.check s = s.length) (hr : ∀ z ∈ nm, rightB z = true) (hd : nm.Nodup) (hp : ∀ j (h : j < l.length), chk l[j] (decide (k = 7 ∧ j = 1)) = 0) : chk (.mk k s nm l) t = 0 := by
  refine (chk_zero _ t).2 ⟨?_, hp⟩
  obtain ⟨h1, h2⟩ := hf.ok hk
  exact alone_zero.2 ⟨decide_eq_true hk, h1, h2, hf.test, txt_of hf.txt hn hu, namesE_zero.2 ⟨List.all_eq_true.2 hr, hd⟩⟩
set_option maxHeartbeats 16000000 in
theorem rcheck_full : ∀ (N : Nat) (e : Ex) (t : Bool) (ao : Option Addr) (an ac : Nat) (po : Option Addr) (pn pc : Nat) (w : World), e.size ≤ N → IsE w e (.slice ao an ac) (.slice po pn pc) → e.mass ≤ 1000000 →
    Calls Tryz.prog 30 #[exV e (.slice ao an ac) (.slice po pn pc), .bool t] w fun r w' => (∃ v : Int, r = .returned (.int .i64 v) ∧ (v = 0 → chk e t = 0)) ∧ Below w.heap.size w w' := by
  intro N
  induction N with
  | zero => intro e t ao an ac po pn pc w hN; have := e.size_pos; omega
  | succ N ih =>
    intro e t ao an ac po pn pc w hN h hm
    obtain ⟨k, s, nm, l⟩ := e
    have B1 := ba (b0 w) (.cells #[.int .i64 k, .string (text s), .slice ao an ac, .slice po pn pc] 25)
    have P1 := heap_alloc_new w (.cells #[.int .i64 k, .string (text s), .slice ao an ac, .slice po pn pc] 25)
    obtain ⟨V, hV⟩ : ∃ V, w.alloc (.cells #[.int .i64 k, .string (text s), .slice ao an ac, .slice po pn pc] 25) = V := ⟨_, rfl⟩
    rw [hV] at B1 P1
    have hE := h.later B1
    have plen := fun X => hE.parts.2.len 3 X
    have nlen := fun X => hE.parts.1.len (P := Tryz.prog) 22 3 9 undS X
    have hpl := hE.parts.2.le
    have hnl := hE.parts.1.le
    simp only [Ex.l, Ex.nm] at plen nlen hpl hnl
    have hsize : sizeL l ≤ N := by simp only [Ex.size] at hN; omega
    have hsl : s.length ≤ 1000000 := by simp only [Ex.mass] at hm; omega
    have FM := hid (rform_full (.mk k s nm l) t ao an ac po pn pc V hE (by simpa [Ex.s] using hsl))
    have HNL := hid (fun z (hz : z ∈ nm) => show z.length ≤ 2000000 from by have := namesMass_mem hz; simp only [Ex.mass] at hm; omega)
    have RR := hid (fun W => RRight_any s (by omega) W)
    have HE := hid hE
    have HB1 := hid B1
    have HP := hid P1
    have HIH := hid ih
    have HSZ := hid hsize
    have HM := hid hm
    have HSL := hid hsl
    obtain ⟨a0, a1, a2, a3⟩ := box_cells P1
    unfold exV at FM ⊢
    simp only [Ex.kind, Ex.s, Ex.nm, Ex.l] at FM ⊢
    clear ih h hN hE B1 P1 hsize hm
    by_cases hk : k < 0 ∨ 19 < k
    · rcases hk with hk | hk
      · have hd : decide (k < 0) = true := decide_eq_true hk
        clear hk
        go_enter Tryz.func30, Tryz.ntmps30
        go_wp2
        go_ret
        exact ⟨⟨2, rfl, fun h => absurd h (by decide)⟩, HB1.out⟩
      · have hd : decide (k < 0) = false := decide_eq_false (by omega)
        have hd2 : decide (19 < k) = true := decide_eq_true hk
        clear hk
        go_enter Tryz.func30, Tryz.ntmps30
        go_wp2
        go_ret
        exact ⟨⟨2, rfl, fun h => absurd h (by decide)⟩, HB1.out⟩
    have hd : decide (k < 0) = false := decide_eq_false (by omega)
    have hd2 : decide (19 < k) = false := decide_eq_false (by omega)
    have HKK := hid (show 0 ≤ k ∧ k ≤ 19 by omega)
    clear hk
    go_enter Tryz.func30, Tryz.ntmps30
    go_wp2_with fail
    refine FM.out.mono ?_
    rintro r w1 ⟨⟨b, rfl, hb⟩, hb1⟩
    have HX := hid (show ∀ X, Below V.heap.size V X → X.cell? ⟨w.heap.size, 0, none⟩ = some (.int .i64 k) ∧ X.cell? ⟨w.heap.size, 1, none⟩ = some (.string (text s)) ∧ X.cell? ⟨w.heap.size, 2, none⟩ = some (.slice ao an ac) ∧ X.cell? ⟨w.heap.size, 3, none⟩ = some (.slice po pn pc) from fun X hX => box_cells ((hX.block _ (lt_of_some HP.out)).trans HP.out))
    have HW1 := hid hb1
    have HOK := hid hb
    clear hb hb1 a0 a1 a2 a3 hd hd2 FM hV
    cases b with
    | false =>
      go_wp2
      go_ret
      exact ⟨⟨17, rfl, fun h => absurd h (by decide)⟩, bt HB1.out HW1.out⟩
    | true =>
      have NM := hid (rnamed_full k w1)
      obtain ⟨a0, a1, a2, a3⟩ := HX.out _ HW1.out
      go_upto_region 5 with fail
      go_cut [29] from 21 to 29 (fun c X => ∃ cb : Bool, c = .bool cb ∧ (cb = false → Xp.named k = true → rightB s = true) ∧ Hid (Below w1.heap.size w1 X))
      case first =>
        go_wp2_with fail
        refine NM.out.mono ?_
        rintro r w2 ⟨rfl, hw2⟩
        subst hw2
        obtain ⟨nb, hnb⟩ : ∃ nb, Xp.named k = nb := ⟨_, rfl⟩
        rw [hnb]
        have HNM := hid hnb
        cases nb with
        | false =>
          have HNB := hid (show ¬ Xp.named k = true from fun q => by rw [hnb] at q; cases q)
          clear hnb
          go_wp2_with fail
          go_meet
          exact ⟨false, rfl, fun _ q => absurd q HNB.out, hid (b0 _)⟩
        | true =>
          clear hnb
          have R1 := hid (RR.out w2)
          obtain ⟨rb, hrb⟩ : ∃ rb, rightB s = rb := ⟨_, rfl⟩
          rw [hrb] at R1
          have HRB := hid hrb
          clear hrb
          go_wp2_with fail
          refine R1.out.mono ?_
          rintro r w3 ⟨rfl, hb3⟩
          go_wp2_with fail
          go_meet
          exact ⟨!rb, rfl, fun h _ => by rw [HRB.out]; simpa using h, hid hb3⟩
      case rest =>
        obtain ⟨cb, rfl, hcb, HW2⟩ := hcut
        have HCB := hid hcb
        have HWV := hid (bt HW1.out HW2.out)
        clear hcb a0 a1 a2 a3 NM
        rename World => w2
        cases cb with
        | true =>
          go_wp2
          go_ret
          exact ⟨⟨6, rfl, fun h => absurd h (by decide)⟩, bt HB1.out HWV.out⟩
        | false =>
          go_wp2_with fail
          go_loopg [5] nm.length (fun gk iv X => ∃ i : Nat, iv = .int .i64 i ∧ i + gk = nm.length ∧ Hid (Below V.heap.size V X) ∧ Hid (∀ z ∈ nm.take i, rightB z = true))
          case atStart => exact ⟨0, rfl, by omega, HWV, hid (by simp)⟩
          case round =>
            rename World => X
            obtain ⟨i, rfl, hig, HBX, HRI⟩ := hrel
            obtain ⟨a0, a1, a2, a3⟩ := HX.out _ HBX.out
            by_cases hi : i < nm.length
            · have HTN := hid (show nm.take (i + 1) = nm.take i ++ [nm[i]] from List.take_succ_eq_append_getElem hi)
              obtain ⟨b1, o1, ix, c0⟩ := (HE.out.parts.1.below HBX.out (Nat.le_refl _)).at (P := Tryz.prog) i hi 22 9 undS sizS
              simp only [Ex.nm] at c0
              have hzl := HNL.out _ (List.getElem_mem hi)
              have ix' := ix .i64
              generalize nm[i] = z at *
              have R2 := hid (RRight_any z hzl X)
              obtain ⟨rb, hrb⟩ : ∃ rb, rightB z = rb := ⟨_, rfl⟩
              rw [hrb] at R2
              have HRB := hid hrb
              clear hrb ix hzl
              go_wp2_with fail
              refine R2.out.mono ?_
              rintro r w4 ⟨rfl, hb4⟩
              have HB4 := hid (bt HBX.out hb4)
              clear hb4 a0 a1 a2 a3 c0
              cases rb with
              | true =>
                go_wp2
                go_roundg (gk - 1)
                case measure => omega
                case rel => exact ⟨i + 1, by go_num, by omega, HB4, hid (by
                  rw [HTN.out]
                  intro z hz
                  rcases List.mem_append.1 hz with hz | hz
                  · exact HRI.out z hz
                  · rw [List.mem_singleton] at hz; rw [hz]; exact HRB.out)⟩
              | false =>
                go_wp2
                go_ret
                exact ⟨⟨6, rfl, fun h => absurd h (by decide)⟩, bt HB1.out HB4.out⟩
            · go_wp2_with fail
              clear a0 a1 a2 a3
              have HRA := hid (show ∀ z ∈ nm, rightB z = true by have := HRI.out; rw [List.take_of_length_le (by omega)] at this; exact this)
              go_loopg [6] nm.length (fun gk iv X => ∃ i : Nat, iv = .int .i64 i ∧ i + gk = nm.length ∧ Hid (Below V.heap.size V X) ∧ Hid ((nm.take i).Nodup))
              case atStart => exact ⟨0, rfl, by omega, HBX, hid (by simp)⟩
              case round =>
                clear HBX hig HRI
                rename World => X
                obtain ⟨i, rfl, hig, HBX, HND⟩ := hrel
                obtain ⟨a0, a1, a2, a3⟩ := HX.out _ HBX.out
                by_cases hi : i < nm.length
                · have HTN := hid (show nm.take (i + 1) = nm.take i ++ [nm[i]] from List.take_succ_eq_append_getElem hi)
                  have hsX := HE.out.parts.1.below HBX.out (Nat.le_refl _)
                  simp only [Ex.nm] at hsX
                  obtain ⟨b1, o1, ix, c0⟩ := hsX.at (P := Tryz.prog) i hi 22 9 undS sizS
                  have ix' := ix .i64
                  obtain ⟨va, _, _, hruna, hrowa⟩ := Row.sub (P := Tryz.prog) hsX 0 i (Nat.zero_le _) (Nat.le_of_lt hi) 22 9 undS sizS
                  have ra : ∀ W, (Instr.slice 22 (.slice ao an ac) none (some (.int .i64 i)) none).run Tryz.prog W = .ok va W := fun W => hruna rfl .i64 W
                  have hst : Strs X va (nm.take i) := by
                    unfold Strs
                    rw [List.length_take, Nat.min_eq_left (Nat.le_of_lt hi)]
                    have e : ((strsOf nm).drop (0 * 1)).take ((i - 0) * 1) = strsOf (nm.take i) := by simp [strsOf, List.map_take]
                    rw [e] at hrowa
                    exact hrowa
                  generalize nm[i] = z at *
                  obtain ⟨mb, hmb⟩ : ∃ mb, decide (z ∈ nm.take i) = mb := ⟨_, rfl⟩
                  have AM := hid (fun (q : Nat) => quiet0 (by have := Among_any va (nm.take i) z (X.drewN q) (hst.below (bdrew X q) (Nat.le_refl _)); rw [hmb] at this; exact this))
                  have HMB := hid hmb
                  clear hsX ix hruna hrowa hst hmb
                  cases mb with
                  | false =>
                    go_wp2_with fail
                    go_quiet ((go_at_call 47; exact Calls.quiet_of (AM.out _)))
                    go_wp2
                    go_roundg (gk - 1)
                    case measure => omega
                    case rel => exact ⟨i + 1, by go_num, by omega, hid (bdrewB HBX.out _), hid (by
                      rw [HTN.out, List.nodup_append]
                      refine ⟨HND.out, by simp, fun a ha b hb e => ?_⟩
                      rw [List.mem_singleton] at hb
                      rw [e, hb] at ha
                      have := of_decide_eq_false HMB.out
                      exact this ha)⟩
                  | true =>
                    go_wp2_with fail
                    go_quiet ((go_at_call 47; exact Calls.quiet_of (AM.out _)))
                    go_wp2
                    go_ret
                    exact ⟨⟨8, rfl, fun h => absurd h (by decide)⟩, bt HB1.out (bdrewB HBX.out _)⟩
                · go_upto_region 17 with fail
                  have HNA := hid (show nm.Nodup by have := HND.out; rw [List.take_of_length_le (by omega)] at this; exact this)
                  clear hi hig HND
                  go_cut [73] from 61 to 73 (fun c Y => ∃ cb : Bool, c = .bool cb ∧ (cb = false → k = 1 → Utf.check s = s.length) ∧ Hid (Below V.heap.size V Y))
                  case first =>
                    by_cases hk1 : k = 1
                    · subst hk1
                      obtain ⟨v, W1, hcv, hv, hbw, _⟩ := conv_at (P := Tryz.prog) s (by omega) 9 53 5 under9 underB under8 X.drew
                      have HC := hid (fun (W : World) (hW : Below W1.heap.size W1 W) => Utf.RCheck_any v s W ((hv W1 rfl).below hW (Nat.le_refl _)))
                      have HS := hid (show ∀ Z, Below X.heap.size X Z → (Below X.heap.size X Z ∧ Z.cell? ⟨w.heap.size, 0, none⟩ = some (.int .i64 1) ∧ Z.cell? ⟨w.heap.size, 1, none⟩ = some (.string (text s))) from fun Z hZ => by
                        obtain ⟨z0, z1, _, _⟩ := HX.out Z (bt HBX.out hZ)
                        exact ⟨hZ, z0, z1⟩)
                      have HS1 := HS.out W1 (bt (bdrew X 1) hbw)
                      obtain ⟨hb1, u0, u1⟩ := HS1
                      have HBW := hid hb1
                      have zt := text_size s
                      clear hv hbw a2 a3 hb1
                      go_wp2_with fail
                      go_region_with (
                        go_at_call 48
                        refine (HC.out _ (b0 _)).mono ?_
                        rintro ev wx ⟨rfl, hb⟩
                        obtain ⟨hbx, y0, y1⟩ := HS.out wx (bt HBW.out hb)
                        have HBE := hid hbx
                        clear hb hbx)
                      all_goals go_wp2_with fail
                      all_goals go_meet
                      all_goals exact ⟨_, rfl, fun hq _ => by
                        have h1 := Utf.check_le s
                        have h2 := of_decide_eq_false hq
                        omega, hid (bt HBX.out HBE.out)⟩
                    · have hkb : (k == 1) = false := by rw [beq_eq_false_iff_ne]; exact hk1
                      have HK1 := hid hk1
                      clear hk1
                      go_wp2_with fail
                      go_quiet (fail)
                      go_wp2_with fail
                      go_meet
                      exact ⟨false, rfl, fun _ q => absurd q HK1.out, hid (bdrewB HBX.out _)⟩
                  case rest =>
                    obtain ⟨cb, rfl, hcb, HBY⟩ := hcut
                    have HCU := hid hcb
                    clear hcb a0 a1 a2 a3 HBX
                    rename World => Y
                    cases cb with
                    | true =>
                      go_wp2
                      go_ret
                      exact ⟨⟨4, rfl, fun h => absurd h (by decide)⟩, bt HB1.out HBY.out⟩
                    | false =>
                      go_wp2_with fail
                      go_loopg [7, 8] l.length (fun gk iv _ X => ∃ i : Nat, iv = .int .i64 i ∧ i + gk = l.length ∧ Hid (Below V.heap.size V X) ∧ Hid (∀ j (h : j < l.length), j < i → chk l[j] (decide (k = 7 ∧ j = 1)) = 0))
                      case atStart => exact ⟨0, rfl, by omega, HBY, hid (fun j _ h => absurd h (Nat.not_lt_zero _))⟩
                      case round =>
                        rename World => X
                        obtain ⟨i, rfl, hig, HBX, HA⟩ := hrel
                        obtain ⟨a0, a1, a2, a3⟩ := HX.out _ HBX.out
                        by_cases hi : i < l.length
                        · obtain ⟨b1, o1, nv1, pv1, i1, ⟨c0, c1, c2, c3, is1⟩⟩ := (HE.out.parts.2.later HBX.out).at i hi
                          simp only [Ex.l] at c0 c1 is1
                          have hsz : l[i].size ≤ N := Nat.le_trans (sizeL_mem (List.getElem_mem hi)) HSZ.out
                          have hpm := part_mass (k := k) (s := s) (nm := nm) hi
                          obtain ⟨y, hy⟩ : ∃ y, l[i] = y := ⟨_, rfl⟩
                          rw [hy] at c0 c1 is1 hsz hpm
                          have HYY := hid hy
                          clear hy
                          obtain ⟨xn, xp⟩ := is1.parts
                          obtain ⟨xo, xl, xc, rfl⟩ := Strs.form xn
                          obtain ⟨yo, yl, yc, rfl⟩ := xp.form
                          have i1' := i1 .i64
                          obtain ⟨tb, htb⟩ : ∃ tb : Bool, decide (k = 7 ∧ i = 1) = tb := ⟨_, rfl⟩
                          have IH := hid (fun (Z : World) (t' : Bool) (hZ : Below X.heap.size X Z) => HIH.out y t' xo xl xc yo yl yc Z hsz (is1.later hZ) (Nat.le_trans hpm HM.out))
                          have HEA := hid (show ExAt X b1 o1 y (.slice xo xl xc) (.slice yo yl yc) from ⟨c0, c1, c2, c3, is1⟩)
                          have HS := hid (show ∀ Z, Below X.heap.size X Z → (Below X.heap.size X Z ∧ Z.cell? ⟨w.heap.size, 0, none⟩ = some (.int .i64 k) ∧ Z.cell? ⟨w.heap.size, 3, none⟩ = some (.slice po pn pc) ∧ Z.cell? ⟨b1, o1, none⟩ = some (.int .i64 y.kind) ∧ Z.cell? ⟨b1, o1 + 1, none⟩ = some (.string (text y.s)) ∧ Z.cell? ⟨b1, o1 + 2, none⟩ = some (.slice xo xl xc) ∧ Z.cell? ⟨b1, o1 + 3, none⟩ = some (.slice yo yl yc)) from fun Z hZ => by
                            obtain ⟨a0, _, _, a3⟩ := HX.out Z (bt HBX.out hZ)
                            obtain ⟨z0, z1, z2, z3, _⟩ := HEA.out.later hZ
                            exact ⟨hZ, a0, a3, z0, z1, z2, z3⟩)
                          have HS0 := HS.out X.drew (bdrew X 1)
                          unfold exV at IH
                          clear i1 is1 xn xp hsz hpm htb tb
                          go_upto_region 22 with fail
                          clear c0 c1 c2 c3 a0 a1 a2 a3
                          go_cut [8] from 81 to 93 (fun c Y => ∃ v : Int, c = .int .i64 v ∧ (v = 0 → chk y (decide (k = 7 ∧ i = 1)) = 0) ∧ Hid (Below V.heap.size V Y))
                          case first =>
                            by_cases h7 : k = 7
                            · subst h7
                              by_cases h1 : i = 1
                              · have HDD := hid (show decide ((7 : Int) = 7 ∧ i = 1) = true from decide_eq_true ⟨rfl, h1⟩)
                                have hb1 : ((i : Int) == 1) = true := by rw [beq_iff_eq]; omega
                                have hb2 : (i == 1) = true := by rw [beq_iff_eq]; exact h1
                                clear h1
                                go_wp2_with fail
                                go_region_held3 (fun Z => (Below X.heap.size X Z ∧ Z.cell? ⟨w.heap.size, 0, none⟩ = some (.int .i64 7) ∧ Z.cell? ⟨w.heap.size, 3, none⟩ = some (.slice po pn pc) ∧ Z.cell? ⟨b1, o1, none⟩ = some (.int .i64 y.kind) ∧ Z.cell? ⟨b1, o1 + 1, none⟩ = some (.string (text y.s)) ∧ Z.cell? ⟨b1, o1 + 2, none⟩ = some (.slice xo xl xc) ∧ Z.cell? ⟨b1, o1 + 3, none⟩ = some (.slice yo yl yc))) (first | exact HSx | exact HS0) (first
                                  | (go_at_call 30
                                     refine (IH.out _ true ?_).mono ?_
                                     (first | exact HSx.1 | exact HS0.1)
                                     rintro ev wx ⟨⟨v, rfl, hv⟩, hb⟩
                                     have HVV := hid hv
                                     clear hv
                                     first | have HSx := HS.out _ (bt HSx.1 hb) | have HSx := HS.out _ (bt HS0.1 hb)))
                                all_goals go_wp2_with fail
                                all_goals go_meet
                                all_goals exact ⟨v, rfl, fun q => by rw [HDD.out]; exact HVV.out q, hid (bt HBX.out HSx.1)⟩
                              · have HDD := hid (show decide ((7 : Int) = 7 ∧ i = 1) = false from decide_eq_false (fun q => h1 q.2))
                                have hb1 : ((i : Int) == 1) = false := by rw [beq_eq_false_iff_ne]; omega
                                have hb2 : (i == 1) = false := by rw [beq_eq_false_iff_ne]; exact h1
                                clear h1
                                go_wp2_with fail
                                go_region_held3 (fun Z => (Below X.heap.size X Z ∧ Z.cell? ⟨w.heap.size, 0, none⟩ = some (.int .i64 7) ∧ Z.cell? ⟨w.heap.size, 3, none⟩ = some (.slice po pn pc) ∧ Z.cell? ⟨b1, o1, none⟩ = some (.int .i64 y.kind) ∧ Z.cell? ⟨b1, o1 + 1, none⟩ = some (.string (text y.s)) ∧ Z.cell? ⟨b1, o1 + 2, none⟩ = some (.slice xo xl xc) ∧ Z.cell? ⟨b1, o1 + 3, none⟩ = some (.slice yo yl yc))) (first | exact HSx | exact HS0) (first
                                  | (go_at_call 30
                                     refine (IH.out _ _ ?_).mono ?_
                                     (first | exact HSx.1 | exact HS0.1)
                                     rintro ev wx ⟨⟨v, rfl, hv⟩, hb⟩
                                     have HVV := hid hv
                                     clear hv
                                     first | have HSx := HS.out _ (bt HSx.1 hb) | have HSx := HS.out _ (bt HS0.1 hb)))
                                all_goals go_wp2_with fail
                                all_goals go_meet
                                all_goals exact ⟨v, rfl, fun q => by rw [HDD.out]; exact HVV.out q, hid (bt HBX.out HSx.1)⟩
                            · have hb7 : (k == 7) = false := by rw [beq_eq_false_iff_ne]; exact h7
                              have hd7 : decide (k = 7) = false := decide_eq_false h7
                              have HDD := hid (show decide (k = 7 ∧ i = 1) = false from decide_eq_false (fun q => h7 q.1))
                              clear h7
                              obtain ⟨_, f0, f3, g0, g1, g2, g3⟩ := HS0
                              have HXD := hid (show Below X.heap.size X X.drew from bdrew X 1)
                              go_still_tail 12, (by kernel_rfl)
                              change wpList _ _ _ _ _ X.drew
                              clear HS
                              generalize X.drew = X1 at *
                              go_wp2_with fail
                              refine (IH.out _ _ HXD.out).mono ?_
                              rintro ev wx ⟨⟨v, rfl, hv⟩, hb⟩
                              have HVV := hid hv
                              have HBW := hid (bt HBX.out (bt HXD.out hb))
                              clear hv hb
                              go_wp2_with fail
                              go_meet
                              exact ⟨v, rfl, fun q => by rw [HDD.out]; exact HVV.out q, HBW⟩
                          case rest =>
                            obtain ⟨v, rfl, hv, HBZ⟩ := hcut
                            have HVV := hid hv
                            clear hv
                            by_cases hv0 : v = 0
                            · subst hv0
                              go_wp2
                              go_roundg (gk - 1)
                              case measure => omega
                              case rel => exact ⟨i + 1, by go_num, by omega, HBZ, hid (fun j hj hji => by
                                by_cases e : j = i
                                · subst e
                                  rw [HYY.out]; exact HVV.out (by trivial)
                                · exact HA.out j hj (by omega))⟩
                            · have hvb : (v == 0) = false := by rw [beq_eq_false_iff_ne]; exact hv0
                              have hvb2 : (v != 0) = true := by rw [bne_iff_ne]; exact hv0
                              have HV0 := hid hv0
                              clear hv0
                              go_wp2
                              go_ret
                              exact ⟨⟨v, rfl, fun h => absurd h HV0.out⟩, bt HB1.out HBZ.out⟩
                        · have HSHP := hid (show chk (.mk k s nm l) t = 0 from by
                            have hok : FormOk k s nm.length l.length t := by simpa using HOK.out
                            have hcb : Xp.named k = true → rightB s = true := by simpa using HCB.out
                            have hcu : k = 1 → Utf.check s = s.length := by simpa using HCU.out
                            exact chk_of HKK.out hok hcb hcu HRA.out HNA.out (fun j hj => HA.out j hj (by omega)))
                          go_wp2
                          go_ret
                          exact ⟨⟨0, rfl, fun _ => HSHP.out⟩, bt HB1.out HBX.out⟩
set_option maxHeartbeats 4000000 in
theorem RCheck_full (e : Ex) (ao : Option Addr) (an ac : Nat) (po : Option Addr) (pn pc : Nat) (w : World) (h : IsE w e (.slice ao an ac) (.slice po pn pc)) (hm : e.mass ≤ 1000000) :
    Calls Tryz.prog 13 #[exV e (.slice ao an ac) (.slice po pn pc)] w fun r w' => (∃ v : Int, r = .returned (.int .i64 v) ∧ (v = 0 → checkV e = 0)) ∧ Below w.heap.size w w' := by
  obtain ⟨V, hV⟩ : ∃ V, w.alloc (.cells #[.int .i64 e.kind, .string (text e.s), .slice ao an ac, .slice po pn pc] 25) = V := ⟨_, rfl⟩
  have BV : Below w.heap.size w V := hV ▸ ba (b0 w) _
  have P2 : V.heap[w.heap.size]? = some (.cells #[.int .i64 e.kind, .string (text e.s), .slice ao an ac, .slice po pn pc] 25) := hV ▸ heap_alloc_new w _
  have hE := h.later BV
  have DP := hid (RDepth_any e.size e ao an ac po pn pc V 201 (Nat.le_refl _) hE (by omega))
  have CK := hid (fun (W : World) (hW : Below V.heap.size V W) => rcheck_full e.size e true ao an ac po pn pc W (Nat.le_refl _) (hE.later hW) hm)
  have HX := hid (show ∀ X, Below V.heap.size V X → X.cell? ⟨w.heap.size, 0, none⟩ = some (.int .i64 e.kind) ∧ X.cell? ⟨w.heap.size, 1, none⟩ = some (.string (text e.s)) ∧ X.cell? ⟨w.heap.size, 2, none⟩ = some (.slice ao an ac) ∧ X.cell? ⟨w.heap.size, 3, none⟩ = some (.slice po pn pc) from fun X hX => box_cells ((hX.block _ (lt_of_some P2)).trans P2))
  have HBV := hid BV
  obtain ⟨a0, a1, a2, a3⟩ := box_cells P2
  obtain ⟨dv, hdv⟩ : ∃ dv : Nat, min e.depth (201 + 1) = dv := ⟨_, rfl⟩
  rw [hdv] at DP
  have HDV := hid (show dv ≤ 200 → e.depth ≤ 200 from fun h => by omega)
  unfold exV at DP CK ⊢
  clear h hm BV P2 hE hdv
  go_enter Tryz.func13, Tryz.ntmps13
  go_wp2_with fail
  refine DP.out.mono ?_
  rintro r w1 ⟨rfl, hb1⟩
  have HB1 := hid hb1
  clear hb1 a0 a1 a2 a3 hV
  by_cases hd : 200 < dv
  · have hdi : (200 : Int) < (dv : Int) := by omega
    go_wp2
    go_ret
    exact ⟨⟨9, rfl, fun h => absurd h (by decide)⟩, bt HBV.out HB1.out⟩
  · have hdi : decide ((200 : Int) < (dv : Int)) = false := decide_eq_false (by omega)
    have hdj : decide (200 < dv) = false := decide_eq_false hd
    have HD := hid (HDV.out (by omega))
    obtain ⟨a0, a1, a2, a3⟩ := HX.out _ HB1.out
    clear hd
    go_wp2_with fail
    refine (CK.out _ HB1.out).mono ?_
    rintro r w2 ⟨⟨v, rfl, hv⟩, hb2⟩
    have HV := hid hv
    have HB2 := hid (bt HB1.out hb2)
    clear hv hb2
    go_wp2
    go_ret
    exact ⟨⟨v, rfl, fun h => checkV_zero.2 ⟨HD.out, HV.out h⟩⟩, bt HBV.out HB2.out⟩
end Go.Proofs.YtkmdclfkmmlloaaGreatDoor.Xp
