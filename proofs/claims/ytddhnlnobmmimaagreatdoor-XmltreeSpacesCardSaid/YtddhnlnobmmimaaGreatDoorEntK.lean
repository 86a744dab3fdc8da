/- Layer 3: contracts of escape, EscapeText, EscapeValue. -/
import Derived.Test.YtddhnlnobmmimaaGreatDoorEntB
import Derived.Test.YtddhnlnobmmimaaGreatDoorEntJ
import Derived.Test.YtddhnlnobmmimaaGreatDoorConv
import Derived.Lib.OthersKept
set_option linter.unusedVariables false
set_option linter.unusedSimpArgs false
namespace Go.Proofs.YtddhnlnobmmimaaGreatDoor.Ent
open Go Go.Proofs.YtddhnlnobmmimaaGreatDoor Go.Proofs.YtddhnlnobmmimaaGreatDoor.Utf Go.RowKit
set_option maxRecDepth 100000

theorem is_iterAt {C b k : Nat} {l : List UInt8} {w : World} (h : Bld.Is C b l w) (hk : k < C) (hkb : k ≠ b) (s : ByteArray) (pos : Nat) : Bld.Is C b l (w.iterAt k s pos) := by
  have key : ∀ p, Bld.At C b p l w → Bld.At C b p l (w.iterAt k s pos) := by
    rintro p ⟨h1, v, h2, h3⟩
    refine ⟨h1, v, by rw [Lib.iterAt_other w k b s pos (fun e => hkb e.symm)]; exact h2, ?_⟩
    exact h3.kept (row := some k) ⟨rfl, rfl, rfl, by rw [Lib.iterAt_size]; exact Nat.le_refl _, fun j _ hj => Lib.iterAt_other w k j s pos (fun e => hj (by rw [e]))⟩ (.inr (fun e => by have := (h3.lt k e).1; omega))
  exact h.elim (fun x => .inl (key _ x)) (fun x => .inr (key _ x))
theorem decode_rt {l : List UInt8} {pos : Nat} (hp : pos < l.length) (h : (rune (l.drop pos)).2 ≠ 0) : Utf8.decode (text l) pos = rune (l.drop pos) := by
  rcases decode_rune l pos hp with ⟨z, _⟩ | ⟨_, _, e⟩
  · exact absurd z h
  · exact e
theorem iter_at {w : World} {k pos : Nat} {s : ByteArray} (h : w.heap[k]? = some (.stringIter s pos)) : w.iterPos k = pos := by simp [World.iterPos, h]

/-- From here on all is right. -/
def Rest (l : List UInt8) (pos : Nat) : Prop := pos ≤ l.length ∧ check (l.drop pos) = (l.drop pos).length
theorem Rest.start {l : List UInt8} (h : check l = l.length) : Rest l 0 := ⟨by omega, by simpa using h⟩
theorem Rest.step {v : Bool} {l : List UInt8} {pos : Nat} (h : Rest l pos) (hp : pos < l.length) :
    (rune (l.drop pos)).2 ≠ 0 ∧ fine ((rune (l.drop pos)).1 : Int) = true ∧ Rest l (pos + (rune (l.drop pos)).2) ∧ esc v (l.take (pos + (rune (l.drop pos)).2)) = esc v (l.take pos) ++ (escT v (rune (l.drop pos)).1).getD (enc ((rune (l.drop pos)).1 : Int)) := by
  obtain ⟨h1, h2⟩ := h
  have hr := rune_le (l.drop pos)
  have hne : (rune (l.drop pos)).2 ≠ 0 := by
    intro e
    rw [check_stop e] at h2
    simp at h2; omega
  obtain ⟨hf, _⟩ := rune_some (l := l.drop pos) (c := (rune (l.drop pos)).1) (k := (rune (l.drop pos)).2) rfl hne
  have hck : check (l.drop (pos + (rune (l.drop pos)).2)) = (l.drop (pos + (rune (l.drop pos)).2)).length := by
    rw [check_step hne, List.drop_drop] at h2
    simp only [List.length_drop] at h2 hr ⊢
    omega
  refine ⟨hne, hf, ⟨by simp only [List.length_drop] at hr; omega, hck⟩, ?_⟩
  rw [List.take_add, esc_append, rune_take _ hne, esc_enc v _ hf]

/-- What is escaped, as values. -/
def escV (v : Bool) (l : List UInt8) : Value := if check l = l.length then .tuple #[.string (text (esc v l)), .int .i64 0] else .tuple #[.string (text []), .int .i64 4]

set_option maxHeartbeats 4000000 in
theorem escape_any (v : Bool) (l : List UInt8) (hl : l.length ≤ 1000000) (m : Nat) (w : World) (hm : EscMap v w m) (hmw : m < w.heap.size) :
    Calls Tryz.prog 149 #[.string (text l), .map (some m)] w fun e w' => e = .returned (escV v l) ∧ Below w.heap.size w w' := by
  obtain ⟨vb, w1, hcv, hvb, hb1, _⟩ := conv_at (P := Tryz.prog) l (by omega) 9 24 5 under9 underB under8 w
  have hck := Check_any vb l w1 (hvb w1 rfl)
  have HCK := hid hck
  have HB1 := hid hb1
  clear hck hvb hb1
  by_cases hc : check l = l.length
  · have he := checkE_ok hc
    rw [he] at HCK
    have hev : escV v l = .tuple #[.string (text (esc v l)), .int .i64 0] := by unfold escV; rw [if_pos hc]
    have HR := hid (Rest.start hc)
    have HEV := hid hev
    have HM := hid hm
    clear he hc hev hm
    go_enter Tryz.func149, Tryz.ntmps149
    go_wp2_with fail
    refine HCK.out.mono ?_
    rintro e w2 ⟨rfl, hb2⟩
    have HB2 := hid (bt HB1.out hb2)
    have hz2 : w.heap.size ≤ w2.heap.size := HB2.out.size
    clear hb2 hcv
    go_wp2_with fail
    go_loopw [10] (fun _ wr => ∃ pos : Nat, wr.heap[w2.heap.size + 1]? = some (.stringIter (text l) pos) ∧ Rest l pos ∧ Bld.Is (w2.heap.size + 2) w2.heap.size (esc v (l.take pos)) wr ∧ Below w2.heap.size w2 wr ∧ w2.heap.size + 2 ≤ wr.heap.size) (fun _ wr => l.length - wr.iterPos (w2.heap.size + 1))
    case atStart =>
      refine ⟨0, by
        have hn := heap_alloc_new (w2.alloc (.cells #[.pointer none, .slice none 0 0] 83)) (.stringIter (text l) 0)
        rw [show (w2.alloc (.cells #[.pointer none, .slice none 0 0] 83)).heap.size = w2.heap.size + 1 from by simp] at hn
        exact hn, HR.out, ?_, ba (ba (b0 w2) _) _, by
        show w2.heap.size + 2 ≤ ((w2.alloc (.cells #[.pointer none, .slice none 0 0] 83)).alloc (.stringIter (text l) 0)).heap.size
        simp⟩
      exact (Bld.Is.fresh (w2.heap.size + 2) w2 (by omega)).later ((Below.refl _ _).alloc (Nat.le_refl _) _)
    case round =>
      rename World => wr
      obtain ⟨pos, hit, hre, hIs, hbr, hzr⟩ := hrel
      have hmr := (HM.out.below HB2.out hmw).below hbr (Nat.lt_of_lt_of_le hmw hz2)
      have s1 : (text l).size = l.length := text_size l
      have hol := esc_len v (l.take pos)
      rw [List.length_take] at hol
      by_cases hp : pos < l.length
      · have hps : pos < (text l).size := by rw [s1]; exact hp
        obtain ⟨hne, hf, hre2, hesc⟩ := hre.step (v := v) hp
        have hnx : ∀ ty, (Instr.next (.pointer (some ⟨w2.heap.size + 1, 0, none⟩)) true ty).run Tryz.prog wr = _ := fun ty => Lib.run_next_any_at wr (w2.heap.size + 1) (text l) pos ty hit hps
        rw [decode_rt hp hne] at hnx
        have hnew := Lib.iterAt_heap wr (w2.heap.size + 1) (text l) pos (pos + (rune (l.drop pos)).2) hit
        have hnb := Lib.below_iterAt hbr (k := w2.heap.size + 1) (by omega) (text l) (pos + (rune (l.drop pos)).2)
        have hni := is_iterAt hIs (k := w2.heap.size + 1) (by omega) (by omega) (text l) (pos + (rune (l.drop pos)).2)
        have hnz := Lib.iterAt_size wr (w2.heap.size + 1) (text l) (pos + (rune (l.drop pos)).2)
        have hmeas := iter_at hit
        have hk1 : 1 ≤ (rune (l.drop pos)).2 := by omega
        have hfl : ((rune (l.drop pos)).1 : Int) ≤ 1114111 := by have := (nfine_iff _).1 hf; omega
        have hrle := rune_le (l.drop pos)
        rw [List.length_drop] at hrle
        generalize rune (l.drop pos) = q at *
        obtain ⟨c, k⟩ := q
        dsimp only at hnx hesc hnew hnb hni hnz hk1 hfl hrle hre2
        have hlk := esc_look (hmr.below (Lib.below_iterAt (Below.refl (w2.heap.size) wr) (k := w2.heap.size + 1) (by omega) (text l) (pos + k)) (Nat.lt_of_lt_of_le hmw hz2)) c hfl
        have HN := hid hnew
        have HNB := hid hnb
        have HNI := hid hni
        have HME := hid hmeas
        have HRE := hid hre2
        have HES := hid hesc
        clear hit hre hIs hbr hmr hnew hnb hni hmeas hre2 hesc hne hf hps
        generalize wr.iterAt (w2.heap.size + 1) (text l) (pos + k) = w4 at *
        have hz4 : w2.heap.size + 2 ≤ w4.heap.size := by omega
        cases ht : escT v c with
        | some t =>
          have htl := escT_len ht
          rw [ht] at hlk HES
          simp only [Option.isSome_some, Option.getD_some] at hlk
          have HES2 : Hid (esc v (l.take (pos + k)) = esc v (l.take pos) ++ t) := HES
          clear ht HES
          go_wp2_with fail
          refine (Bld.WriteString_any (w2.heap.size + 2) w2.heap.size _ t _ HNI.out (by omega) hz4).mono ?_
          rintro e w5 ⟨rfl, hI5, hB5⟩
          have HI5 := hid hI5
          have HB5 := hid hB5
          clear hI5 hB5
          have hz5 := HB5.out.size
          have HIT := hid ((HB5.out.block (w2.heap.size + 1) (by omega) (by omega)).trans HN.out)
          go_wp2_with fail
          go_roundw
          case rel => exact ⟨pos + k, HIT.out, HRE.out, by rw [HES2.out]; exact HI5.out, HNB.out.trans (HB5.out.below (Nat.le_refl _) (by omega)), by omega⟩
          case measure => rw [HME.out, iter_at HIT.out]; omega
        | none =>
          rw [ht] at hlk HES
          simp only [Option.isSome_none, Option.getD_none] at hlk
          have HES2 : Hid (esc v (l.take (pos + k)) = esc v (l.take pos) ++ enc (c : Int)) := HES
          have hc0 : 0 ≤ (c : Int) := by omega
          clear ht HES
          go_wp2_with fail
          refine (Bld.WriteRune_any (w2.heap.size + 2) w2.heap.size _ (c : Int) hc0 hfl _ HNI.out (by omega) hz4).mono ?_
          rintro e w5 ⟨rfl, hI5, hB5⟩
          have HI5 := hid hI5
          have HB5 := hid hB5
          clear hI5 hB5
          have hz5 := HB5.out.size
          have HIT := hid ((HB5.out.block (w2.heap.size + 1) (by omega) (by omega)).trans HN.out)
          go_wp2_with fail
          go_roundw
          case rel => exact ⟨pos + k, HIT.out, HRE.out, by rw [HES2.out]; exact HI5.out, HNB.out.trans (HB5.out.below (Nat.le_refl _) (by omega)), by omega⟩
          case measure => rw [HME.out, iter_at HIT.out]; omega
      · have hps : ¬ pos < (text l).size := by rw [s1]; exact hp
        have hnx : ∀ ty, (Instr.next (.pointer (some ⟨w2.heap.size + 1, 0, none⟩)) true ty).run Tryz.prog wr = _ := fun ty => Lib.run_next_end_at wr (w2.heap.size + 1) (text l) pos ty hit hps
        have htk : l.take pos = l := List.take_of_length_le (by omega)
        rw [htk] at hIs
        have hstr := Bld.String_any (w2.heap.size + 2) w2.heap.size (esc v l) wr hIs
        have HSR := hid hstr
        have HBR := hid hbr
        clear hit hre hIs hbr hmr hol htk hstr
        go_wp2_with fail
        refine HSR.out.mono ?_
        rintro e w5 ⟨rfl, hb5⟩
        go_wp2
        go_ret2
        exact ⟨by rw [HEV.out]; rfl, HB2.out.trans ((HBR.out.trans hb5).mono hz2)⟩
  · have he := checkE_no hc
    rw [he] at HCK
    have hev : escV v l = .tuple #[.string (text []), .int .i64 4] := by unfold escV; rw [if_neg hc]
    have HEV := hid hev
    clear he hc hev hm
    go_enter Tryz.func149, Tryz.ntmps149
    go_wp2_with fail
    refine HCK.out.mono ?_
    rintro e w2 ⟨rfl, hb2⟩
    go_wp2
    go_ret2
    exact ⟨by rw [HEV.out]; rfl, bt HB1.out hb2⟩

set_option maxHeartbeats 400000 in
theorem EscapeText_any (l : List UInt8) (hl : l.length ≤ 1000000) (w : World) :
    Calls Tryz.prog 108 #[.string (text l)] w fun e w' => e = .returned (escV false l) ∧ Below w.heap.size w w' := by
  have H := hid (fun m w hm hmw => escape_any false l hl m w hm hmw)
  obtain ⟨x, n, hx⟩ : ∃ x n, escV false l = .tuple #[.string x, .int .i64 n] := by unfold escV; split <;> exact ⟨_, _, rfl⟩
  rw [hx] at H ⊢
  clear hx
  go_enter Tryz.func108, Tryz.ntmps108
  go_wp2_with fail
  refine (textEscapes_map _).mono ?_
  rintro e w1 ⟨rfl, hm, hb1, hz⟩
  have HM := hid hm
  clear hm
  go_wp2_with fail
  refine (H.out _ _ HM.out hz).mono ?_
  rintro e w2 ⟨rfl, hb2⟩
  go_wp2
  go_ret2
  exact ⟨rfl, bt hb1 hb2⟩
set_option maxHeartbeats 400000 in
theorem EscapeValue_any (l : List UInt8) (hl : l.length ≤ 1000000) (w : World) :
    Calls Tryz.prog 107 #[.string (text l)] w fun e w' => e = .returned (escV true l) ∧ Below w.heap.size w w' := by
  have H := hid (fun m w hm hmw => escape_any true l hl m w hm hmw)
  obtain ⟨x, n, hx⟩ : ∃ x n, escV true l = .tuple #[.string x, .int .i64 n] := by unfold escV; split <;> exact ⟨_, _, rfl⟩
  rw [hx] at H ⊢
  clear hx
  go_enter Tryz.func107, Tryz.ntmps107
  go_wp2_with fail
  refine (valueEscapes_any _).mono ?_
  rintro e w1 ⟨rfl, hm, hb1, hz⟩
  have HM := hid hm
  clear hm
  go_wp2_with fail
  refine (H.out _ _ HM.out hz).mono ?_
  rintro e w2 ⟨rfl, hb2⟩
  go_wp2
  go_ret2
  exact ⟨rfl, bt hb1 hb2⟩
end Go.Proofs.YtddhnlnobmmimaaGreatDoor.Ent
