/- Layer 7: contract of the document's one form. -/
import Derived.Test.YtjmfcgbelikcdaaDoorNumC
set_option linter.unusedVariables false
set_option linter.unusedSimpArgs false
namespace Go.Proofs.YtjmfcgbelikcdaaDoor.Num
open Go Go.Proofs.YtjmfcgbelikcdaaDoor Go.RowKit
set_option maxRecDepth 100000

/-- The document's one form on its way: what stands in the box is the same number. -/
def Way (l : List UInt8) (k : Nat) (m : List UInt8) (j : Nat) : Prop := AllD m ∧ m ≠ [] ∧ canon m j = canon l k
theorem Way.drop {l m : List UInt8} {k : Nat} (h : Way l k m k) (h1 : 1 < m.length) (h2 : m[0] = 48) : Way l k (m.drop 1) k := by
  obtain ⟨a, b, c⟩ := h
  rcases m with _ | ⟨x, r⟩
  · exact absurd rfl b
  · have hx : x = 48 := h2
    subst hx
    refine ⟨a.right (l := [48]), ?_, by rw [← c, canon_cons]; rfl⟩
    intro e
    have : r = [] := e
    subst this
    simp at h1
theorem Way.cut {l m : List UInt8} {k j : Nat} (h : Way l k m (j + 1)) (h1 : m.length ≤ 1 ∨ m.head? ≠ some 48) (h2 : m.getLast? = some 48) (h3 : m ≠ [48]) :
    Way l k (m.take (m.length - 1)) j ∧ ((m.take (m.length - 1)).length ≤ 1 ∨ (m.take (m.length - 1)).head? ≠ some 48) := by
  obtain ⟨a, b, c⟩ := h
  obtain ⟨r, x, rfl⟩ : ∃ r x, m = r ++ [x] := ⟨m.dropLast, m.getLast b, (List.dropLast_concat_getLast b).symm⟩
  have hx : x = 48 := by simpa using h2
  subst hx
  have e : (r ++ [(48 : UInt8)]).take ((r ++ [(48 : UInt8)]).length - 1) = r := by simp
  rw [e]
  have hr : r ≠ [] := by rintro rfl; exact h3 rfl
  refine ⟨⟨a.left, hr, by rw [← c, canon_snoc a.left]⟩, ?_⟩
  rcases h1 with h1 | h1
  · left; simp at h1; exact absurd h1 hr
  · right
    rcases r with _ | ⟨y, r⟩
    · exact absurd rfl hr
    · simpa using h1
theorem Way.zero {l : List UInt8} {k j : Nat} (h : Way l k [48] j) : canon l k = ([48], 0) := by rw [← h.2.2]; rfl
theorem Way.done {l m : List UInt8} {k j : Nat} (h : Way l k m j) (h1 : m.length ≤ 1 ∨ m.head? ≠ some 48) (h2 : j = 0 ∨ m.getLast? ≠ some 48) (h3 : m ≠ [48]) : canon l k = (m, j) := by
  obtain ⟨a, b, c⟩ := h
  rw [← c]
  refine canon_fix ⟨a, b, .inr ⟨?_, h2⟩⟩
  rcases h1 with h1 | h1
  · rcases m with _ | ⟨y, r⟩
    · exact absurd rfl b
    · have hr : r = [] := List.eq_nil_of_length_eq_zero (by simpa using h1)
      subst hr
      intro e
      exact h3 (by simpa using e)
  · exact h1
theorem last_at {m : List UInt8} (h : m ≠ []) (h' : m.length - 1 < m.length) : m.getLast? = some (m[m.length - 1]'h') := by
  rw [List.getLast?_eq_getElem?]; exact List.getElem?_eq_getElem h'
theorem head_at {m : List UInt8} (h : 0 < m.length) : m.head? = some m[0] := by rw [List.head?_eq_getElem?]; exact List.getElem?_eq_getElem h

theorem put1a {w : World} {b : Nat} {x y : Value} {ty : TypeId} (h : w.heap[b]? = some (.cells #[x, y] ty (0, 0))) (u : Value) :
    (w.setCell ⟨b, 0, none⟩ u).heap[b]? = some (.cells #[u, y] ty (0, 0)) := by simp [World.setCell, Array.getElem?_modify, h]
theorem put1b {w : World} {b : Nat} {x y : Value} {ty : TypeId} (h : w.heap[b]? = some (.cells #[x, y] ty (0, 0))) (u : Value) :
    (w.setCell ⟨b, 1, none⟩ u).heap[b]? = some (.cells #[x, u] ty (0, 0)) := by simp [World.setCell, Array.getElem?_modify, h]
theorem put_else {w : World} {b c j : Nat} {o : Obj} (h : w.heap[c]? = some o) (hc : c ≠ b) (u : Value) : (w.setCell ⟨b, j, none⟩ u).heap[c]? = some o :=
  (Below.heap_setCell w ⟨b, j, none⟩ u c hc).trans h
theorem put_below {w X : World} {b j : Nat} (h : Below w.heap.size w X) (hb : w.heap.size ≤ b) (u : Value) : Below w.heap.size w (X.setCell ⟨b, j, none⟩ u) := h.setCell (p := ⟨b, j, none⟩) hb u

set_option maxHeartbeats 2000000 in
theorem RCanon_any (l : List UInt8) (k : Nat) (hl : l.length ≤ 1000000000) (hk : k ≤ 1000000000) (hd : AllD l) (hn : l ≠ []) (w : World) :
    Calls Tryd.prog 15 #[numV (l, k)] w fun e w' => e = .returned (numV (canon l k)) ∧ Below w.heap.size w w' := by
  have HW := hid (show Way l k l k from ⟨hd, hn, rfl⟩)
  have s1 := text_size l
  clear hd hn
  unfold numV numZ
  go_enter Tryd.func15, Tryd.ntmps15
  go_wp2_with fail
  go_loopg [6] l.length (fun gk _ wr => ∃ m : List UInt8, gk = m.length ∧ m.length ≤ l.length ∧ Hid (Way l k m k) ∧ Hid (wr.heap[w.heap.size]? = some (.cells #[.string (text m), .int .i64 k] 24 (0, 0))) ∧ Hid (wr.heap[w.heap.size + 1]? = some (.cells #[.string ⟨#[]⟩, .int .i64 0] 24 (0, 0))) ∧ Hid (Below w.heap.size w wr))
  case atStart => exact ⟨l, rfl, Nat.le_refl _, HW, hid (heap_alloc_old (heap_alloc_new _ _)), hid (by have := heap_alloc_new (w.alloc (.cells #[.string (text l), .int .i64 k] 24)) (.cells #[.string ⟨#[]⟩, .int .i64 0] 24); simpa using this), hid (ba (ba (b0 _) _) _)⟩
  case round =>
    rename World => X
    obtain ⟨m, hgk, hml, HM, HB, HC, HX⟩ := hrel
    have c0 : X.cell? ⟨w.heap.size, 0, none⟩ = some (.string (text m)) := by rw [Lib.cell_of_heap HB.out]; rfl
    have c1 : X.cell? ⟨w.heap.size, 1, none⟩ = some (.int .i64 k) := by rw [Lib.cell_of_heap HB.out]; rfl
    have f0 := Lib.frozen_of_heap HB.out 0
    have s2 := text_size m
    by_cases hgo : 1 < m.length ∧ m.head? = some 48
    · obtain ⟨h1, h2⟩ := hgo
      have hps : 0 < (text m).size := by omega
      have hx2 : m[0]'(by omega) = 48 := by rw [head_at (by omega)] at h2; exact Option.some.inj h2
      have HD := hid (HM.out.drop h1 hx2)
      have hx' : (((text m)[0]'hps).toNat : Int) = 48 := by
        have : ((text m)[0]'hps) = m[0]'(by omega) := rfl
        rw [this, hx2]; rfl
      have ex : (text m).extract 1 m.length = text (m.drop 1) := by rw [← s2]; exact text_extract m 1
      clear hx2 h2
      go_wp2
      go_roundg (gk - 1)
      case rel =>
        exact ⟨m.drop 1, by simp; omega, by simp; omega, HD, hid (by rw [List.drop_one]; exact put1a HB.out _), hid (put_else HC.out (by omega) _), hid (put_below HX.out (Nat.le_refl _) _)⟩
      case measure => omega
    · have HE := hid (show m.length ≤ 1 ∨ m.head? ≠ some 48 from by
        by_cases h1 : m.length ≤ 1
        · exact .inl h1
        · exact .inr fun e => hgo ⟨by omega, e⟩)
      have hm0 : 0 < m.length := List.length_pos_iff.2 HM.out.2.1
      have hps : 0 < (text m).size := by omega
      have hx : ¬ 1 < m.length ∨ (1 < m.length ∧ ¬ (((text m)[0]'hps).toNat : Int) = 48) := by
        by_cases h1 : 1 < m.length
        · refine .inr ⟨h1, fun e => hgo ⟨h1, ?_⟩⟩
          rw [head_at hm0]
          have : ((text m)[0]'hps) = m[0]'hm0 := rfl
          rw [this] at e
          rw [show m[0]'hm0 = 48 from UInt8.toNat_inj.1 (by have : (48 : UInt8).toNat = 48 := rfl; omega)]
        · exact .inl h1
      clear hgo
      rcases hx with h1 | ⟨h1, h2⟩
      all_goals
        go_wp2_with fail
        go_loopg [19] k (fun gk _ wr => ∃ (m : List UInt8), m.length ≤ l.length ∧ gk ≤ k ∧ Hid (Way l k m gk) ∧ Hid (m.length ≤ 1 ∨ m.head? ≠ some 48) ∧ Hid (wr.heap[w.heap.size]? = some (.cells #[.string (text m), .int .i64 gk] 24 (0, 0))) ∧ Hid (wr.heap[w.heap.size + 1]? = some (.cells #[.string ⟨#[]⟩, .int .i64 0] 24 (0, 0))) ∧ Hid (Below w.heap.size w wr))
        case atStart => exact ⟨m, hml, Nat.le_refl _, HM, HE, HB, HC, HX⟩
        case round =>
          rename World => Y
          obtain ⟨q, hql, hjk, HM2, HE2, HB2, HC2, HY⟩ := hrel
          have d0 : Y.cell? ⟨w.heap.size, 0, none⟩ = some (.string (text q)) := by rw [Lib.cell_of_heap HB2.out]; rfl
          have d1 : Y.cell? ⟨w.heap.size, 1, none⟩ = some (.int .i64 gk) := by rw [Lib.cell_of_heap HB2.out]; rfl
          have g0 := Lib.frozen_of_heap HB2.out 0
          have g1 := Lib.frozen_of_heap HB2.out 1
          have e0 : Y.cell? ⟨w.heap.size + 1, 0, none⟩ = some (.string ⟨#[]⟩) := by rw [Lib.cell_of_heap HC2.out]; rfl
          have e1 : Y.cell? ⟨w.heap.size + 1, 1, none⟩ = some (.int .i64 0) := by rw [Lib.cell_of_heap HC2.out]; rfl
          have k0 := Lib.frozen_of_heap HC2.out 0
          have k1 := Lib.frozen_of_heap HC2.out 1
          have t2 := text_size q
          have hq0 : 0 < q.length := List.length_pos_iff.2 HM2.out.2.1
          have hps2 : q.length - 1 < (text q).size := by omega
          by_cases hgo2 : 0 < gk ∧ q.getLast? = some 48 ∧ q ≠ [48]
          · obtain ⟨a1, a2, a3⟩ := hgo2
            have q0 := list_no a3
            have HA3 := hid a3
            have HA2 := hid a2
            obtain ⟨j, rfl⟩ : ∃ j, gk = j + 1 := ⟨gk - 1, by omega⟩
            have HD := hid (HM2.out.cut HE2.out a2 a3)
            have hx' : (((text q)[q.length - 1]'hps2).toNat : Int) = 48 := by
              have : ((text q)[q.length - 1]'hps2) = q[q.length - 1]'(by omega) := rfl
              rw [last_at HM2.out.2.1 (by omega)] at a2
              rw [this, Option.some.inj a2]; rfl
            clear a2 a3
            go_wp2
            have ex2 : (text q).extract 0 (q.length - 1) = text (q.take (q.length - 1)) := text_zero q _
            rw [ex2]
            go_roundg j
            case rel => exact ⟨q.take (q.length - 1), by simp; omega, by omega, hid HD.out.1, hid HD.out.2, hid (put1b (put1a HB2.out _) _), hid (put_else (put_else HC2.out (by omega) _) (by omega) _), hid (put_below (put_below HY.out (Nat.le_refl _) _) (Nat.le_refl _) _)⟩
            case measure => omega
          · by_cases h48 : q = [48]
            · have HZ := hid (show canon l k = ([48], 0) by have := HM2.out; rw [h48] at this; exact this.zero)
              have q0 := list_yes h48
              have HQ := hid h48
              have hx' : (((text q)[q.length - 1]'hps2).toNat : Int) = 48 := by
                have : ((text q)[q.length - 1]'hps2) = q[q.length - 1]'(by omega) := rfl
                rw [this]
                subst h48; rfl
              clear h48 hgo2
              rcases Nat.eq_zero_or_pos gk with hz | hz
              · subst hz
                go_wp2
                refine bodyPost_ret (results_one rfl _ _ _ _ rfl (load_num (put2 (put_else HC2.out (by omega) _) _ _))) rfl ?_
                exact ⟨by rw [HZ.out, HQ.out]; rfl, put2_below (put_below HY.out (Nat.le_refl _) _) (by omega) _ _⟩
              · have hz' : (0 : Int) < (gk : Int) := by omega
                go_wp2
                refine bodyPost_ret (results_one rfl _ _ _ _ rfl (load_num (put2 (put_else HC2.out (by omega) _) _ _))) rfl ?_
                exact ⟨by rw [HZ.out, HQ.out]; rfl, put2_below (put_below HY.out (Nat.le_refl _) _) (by omega) _ _⟩
            · have hl : gk = 0 ∨ q.getLast? ≠ some 48 := by
                rcases Nat.eq_zero_or_pos gk with hz | hz
                · exact .inl hz
                · exact .inr fun e => hgo2 ⟨hz, e, h48⟩
              have HZ := hid (HM2.out.done HE2.out hl h48)
              have q0 := list_no h48
              clear h48 hgo2
              rcases Nat.eq_zero_or_pos gk with hz | hz
              · subst hz
                clear hl
                go_wp2
                refine bodyPost_ret (results_one rfl _ _ _ _ rfl (load_num (put2 HC2.out _ _))) rfl ?_
                exact ⟨by rw [HZ.out] <;> rfl, put2_below HY.out (by omega) _ _⟩
              · have hz' : (0 : Int) < (gk : Int) := by omega
                have hx' : ¬ (((text q)[q.length - 1]'hps2).toNat : Int) = 48 := by
                  have hne := hl.resolve_left (by omega)
                  have : ((text q)[q.length - 1]'hps2) = q[q.length - 1]'(by omega) := rfl
                  rw [last_at HM2.out.2.1 (by omega)] at hne
                  rw [this]
                  intro e
                  exact hne (congrArg some (UInt8.toNat_inj.1 (by have : (48 : UInt8).toNat = 48 := rfl; omega)))
                clear hl
                go_wp2
                refine bodyPost_ret (results_one rfl _ _ _ _ rfl (load_num (put2 HC2.out _ _))) rfl ?_
                exact ⟨by rw [HZ.out] <;> rfl, put2_below HY.out (by omega) _ _⟩
end Go.Proofs.YtjmfcgbelikcdaaDoor.Num
