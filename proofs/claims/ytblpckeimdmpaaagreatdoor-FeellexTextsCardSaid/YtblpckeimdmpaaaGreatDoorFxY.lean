/- Layer 8: contract of the code's quoted. | Layer 8: contracts of the code's word and front. | Layer 8: rows of FEEL's tokens; contract of the document's own Same. | Layer 8: contract of the code's Lex. | Layer 8: Lex at given texts; the statements' alive. -/
import Derived.Test.YtblpckeimdmpaaaGreatDoorFxX
import Derived.Laws.ResultCell
import Derived.Maps.AppendAt
import Derived.RegionTactic
import Derived.BigRegion
import Derived.Test.YtblpckeimdmpaaaGreatDoorApp
import Derived.Test.YtblpckeimdmpaaaGreatDoorNamesA
import Derived.Test.YtblpckeimdmpaaaGreatDoorFlX
import Derived.Deep.LoopGhost
import Derived.Deep.QuietTactic
import Derived.BigQuiet
import Derived.Test.YtblpckeimdmpaaaGreatDoorConv
set_option linter.unusedVariables false
set_option linter.unusedSimpArgs false
namespace Go.Proofs.YtblpckeimdmpaaaGreatDoor.Fx
open Go Go.Proofs.YtblpckeimdmpaaaGreatDoor Go.Proofs.YtblpckeimdmpaaaGreatDoor.Utf Go.Proofs.YtblpckeimdmpaaaGreatDoor.Names Go.Proofs.YtblpckeimdmpaaaGreatDoor.Ent Go.Proofs.YtblpckeimdmpaaaGreatDoor.Fl Go.RowKit
set_option maxRecDepth 100000

/-- Where the walk through a text in quotes stands. -/
def Told (r : List UInt8) (pos e : Nat) (out : List UInt8) : Prop :=
  Edge (34 :: r) pos ∧ Edge (34 :: r) (max pos e) ∧ 1 ≤ max pos e ∧ str r = put out (max pos e - 1) (str ((34 :: r).drop (max pos e))) ∧ out.length ≤ 4 * pos
theorem Told.start {r : List UInt8} (h : check (34 :: r) = (34 :: r).length) : Told r 0 1 [] := by
  refine ⟨Edge.start h, ?_, by omega, ?_, by simp⟩
  · have := check_ascii _ (34 :: r) rfl h 0 (by simp) (by show (34 : UInt8).toNat < 128; decide)
    exact ⟨by simp, this⟩
  · show str r = put [] 0 (str r)
    exact (str_same r).symm
theorem Told.wait {r out : List UInt8} {pos e : Nat} (h : Told r pos e out) (hp : pos < (34 :: r).length) (hlt : pos < e) : Told r (pos + (rune ((34 :: r).drop pos)).2) e out := by
  obtain ⟨h1, h2, h3, h4, h5⟩ := h
  have hs := h1.step hp
  rw [Nat.max_eq_right (by omega)] at h2 h3 h4
  have ho := h1.over h2 hlt
  unfold Told
  rw [Nat.max_eq_right ho]
  exact ⟨hs.2.2.1, h2, h3, h4, by omega⟩
theorem Told.over {r out : List UInt8} {pos e : Nat} (h : Told r pos e out) (hp : pos < (34 :: r).length) (hlt : ¬ pos < e) (hc : (rune ((34 :: r).drop pos)).1 = 34) :
    str r = (out, pos, 0) ∧ 1 ≤ pos := by
  obtain ⟨h1, h2, h3, h4, h5⟩ := h
  rw [Nat.max_eq_left (by omega)] at h2 h3 h4
  obtain ⟨t, ht, _⟩ := rune_is (h1.step hp).1 hc (by omega)
  rw [ht, show UInt8.ofNat 34 = 34 from rfl, str_end] at h4
  refine ⟨?_, h3⟩
  rw [h4]
  unfold put
  simp
  omega
theorem Told.bad {r out : List UInt8} {pos e : Nat} (h : Told r pos e out) (hlt : ¬ pos < e) {t : List UInt8} (ht : (34 :: r).drop pos = 92 :: t) (hn : escN t = none) :
    str r = ([], pos - 1, 11) ∧ 1 ≤ pos := by
  obtain ⟨h1, h2, h3, h4, h5⟩ := h
  rw [Nat.max_eq_left (by omega)] at h2 h3 h4
  rw [ht, str_wrong hn] at h4
  refine ⟨?_, h3⟩
  rw [h4]
  unfold put
  simp
theorem Told.esc {r out : List UInt8} {pos e : Nat} (h : Told r pos e out) (hp : pos < (34 :: r).length) (hlt : ¬ pos < e) {t : List UInt8} (ht : (34 :: r).drop pos = 92 :: t) {c k : Nat} (hn : escN t = some (c, k)) :
    Told r (pos + 1) (pos + (1 + k)) (out ++ enc (c : Int)) := by
  obtain ⟨h1, h2, h3, h4, h5⟩ := h
  rw [Nat.max_eq_left (by omega)] at h2 h3 h4
  have hs := escN_some hn
  have hl := congrArg List.length ht
  rw [List.length_drop, List.length_cons (a := (92 : UInt8))] at hl
  have hck := esc_check (by rw [← ht]; exact h1.2) hn
  have hb := h1.behind (n := 1 + k) (by omega) (by rw [ht]; exact hck)
  have h1b := h1.behind (n := 1) (by omega) (by rw [ht]; exact check_ascii _ (92 :: t) rfl (by rw [← ht]; exact h1.2) 0 (by simp) (by show (92 : UInt8).toNat < 128; decide))
  unfold Told
  rw [Nat.max_eq_right (by omega)]
  have he := enc_len (c : Int)
  refine ⟨h1b, hb, by omega, ?_, by rw [List.length_append]; omega⟩
  rw [h4, ht, str_esc hn, put_put]
  have hd : (34 :: r).drop (pos + (1 + k)) = t.drop k := by
    rw [← List.drop_drop, ht, Nat.add_comm 1 k]; rfl
  rw [hd]
  congr 1
  omega
theorem Told.self {r out : List UInt8} {pos e : Nat} (h : Told r pos e out) (hp : pos < (34 :: r).length) (hlt : ¬ pos < e) (h1 : (rune ((34 :: r).drop pos)).1 ≠ 34) (h2 : (rune ((34 :: r).drop pos)).1 ≠ 92) :
    Told r (pos + (rune ((34 :: r).drop pos)).2) e (out ++ enc ((rune ((34 :: r).drop pos)).1 : Int)) := by
  obtain ⟨k1, k2, k3, k4, k5⟩ := h
  rw [Nat.max_eq_left (by omega)] at k2 k3 k4
  have hs := k1.step hp
  unfold Told
  rw [Nat.max_eq_left (by omega)]
  have he := enc_len ((rune ((34 :: r).drop pos)).1 : Int)
  refine ⟨hs.2.2.1, hs.2.2.1, by omega, ?_, by rw [List.length_append]; omega⟩
  rw [k4, str_rune hs.1 h1 h2, put_put, List.drop_drop]
  congr 1
  omega
theorem Told.done {r out : List UInt8} {pos e : Nat} (h : Told r pos e out) (hp : ¬ pos < (34 :: r).length) : str r = ([], r.length, 10) := by
  obtain ⟨h1, h2, h3, h4, h5⟩ := h
  have e1 : max pos e = (34 :: r).length := by have := h2.1; omega
  rw [e1, List.drop_length, str_nil] at h4
  rw [h4]
  unfold put
  simp

/-- What it tells, as values. -/
def quotedV (r : List UInt8) : Value := .tuple #[.string (text (str r).1), .int .i64 ((1 + (str r).2.1 : Nat) : Int), .int .i64 (str r).2.2]

set_option maxHeartbeats 4000000 in
theorem quoted_any (r : List UInt8) (hl : r.length ≤ 1000000) (hck : check (34 :: r) = (34 :: r).length) (w : World) (hE : Errs w) :
    Calls Tryz.prog 41 #[.string (text (34 :: r))] w fun e w' => e = .returned (quotedV r) ∧ Below w.heap.size w w' := by
  have hT := Told.start hck
  have hqv : quotedV r = .tuple #[.string (text (str r).1), .int .i64 ((1 + (str r).2.1 : Nat) : Int), .int .i64 (str r).2.2] := rfl
  have hlen : (34 :: r).length = r.length + 1 := rfl
  have s1 : (text (34 :: r)).size = (34 :: r).length := text_size _
  rw [hlen] at s1
  have hx : ∀ pos, (text (34 :: r)).extract pos (r.length + 1) = text ((34 :: r).drop pos) := fun pos => by have := text_extract (34 :: r) pos; rwa [s1] at this
  have HX := hid hx
  have HT := hid hT
  have HQ := hid hqv
  have HE := hid hE
  have HW := hid (fun pos e out (h : Told r pos e out) => h.wait)
  have HO := hid (fun pos e out (h : Told r pos e out) => h.over)
  have HB := hid (fun pos e out (h : Told r pos e out) => h.bad)
  have HS := hid (fun pos e out (h : Told r pos e out) => h.esc)
  have HP := hid (fun pos e out (h : Told r pos e out) => h.self)
  have HD := hid (fun pos e out (h : Told r pos e out) => h.done)
  have HF := hid (fun pos e out (h : Told r pos e out) (hp : pos < (34 :: r).length) => h.1.step hp)
  have HL := hid (fun pos e out (h : Told r pos e out) => h.2.2.2.2)
  generalize Told r = T at *
  clear hT hqv hE hck hx
  generalize hs : 34 :: r = s at *
  clear hs
  go_enter Tryz.func41, Tryz.ntmps41
  go_wp2_with fail
  go_loopw [6] (fun ev wr => ∃ (pos e : Nat) (out : List UInt8), ev = .int .i64 e ∧ wr.heap[w.heap.size + 1]? = some (.stringIter (text s) pos) ∧ Hid (T pos e out) ∧ Bld.Is (w.heap.size + 2) w.heap.size out wr ∧ Below w.heap.size w wr ∧ w.heap.size + 2 ≤ wr.heap.size) (fun _ wr => s.length - wr.iterPos (w.heap.size + 1))
  case atStart =>
    refine ⟨0, 1, [], rfl, by
      have hn := heap_alloc_new (w.alloc (.cells #[.pointer none, .slice none 0 0] 57)) (.stringIter (text s) 0)
      rw [show (w.alloc (.cells #[.pointer none, .slice none 0 0] 57)).heap.size = w.heap.size + 1 from by simp] at hn
      exact hn, HT, ?_, ba (ba (b0 w) _) _, by
      show w.heap.size + 2 ≤ ((w.alloc (.cells #[.pointer none, .slice none 0 0] 57)).alloc (.stringIter (text s) 0)).heap.size
      simp⟩
    exact (Bld.Is.fresh (w.heap.size + 2) w (by omega)).later ((Below.refl _ _).alloc (Nat.le_refl _) _)
  case round =>
    rename World => wr
    obtain ⟨pos, e, out, rfl, hit, HST, hIs, hbr, hzr⟩ := hrel
    have hol := HL.out pos e out HST.out
    by_cases hp : pos < s.length
    · have hps : pos < (text s).size := by rw [s1, ← hlen]; exact hp
      have hnx : ∀ ty, (Instr.next (.pointer (some ⟨w.heap.size + 1, 0, none⟩)) true ty).run Tryz.prog wr = _ := fun ty => Lib.run_next_any_at wr (w.heap.size + 1) (text s) pos ty hit hps
      obtain ⟨hne, hfi, _, hdec⟩ := HF.out pos e out HST.out hp
      rw [hdec] at hnx
      have hk1 : 1 ≤ (rune (s.drop pos)).2 := by omega
      have hfl : ((rune (s.drop pos)).1 : Int) ≤ 1114111 := by have := (nfine_iff _).1 hfi; omega
      have hrle := (rune_le (s.drop pos)).1
      rw [List.length_drop] at hrle
      have hnew := Lib.iterAt_heap wr (w.heap.size + 1) (text s) pos (pos + (rune (s.drop pos)).2) hit
      have hnb := Lib.below_iterAt hbr (k := w.heap.size + 1) (by omega) (text s) (pos + (rune (s.drop pos)).2)
      have hni := is_iterAt hIs (k := w.heap.size + 1) (by omega) (by omega) (text s) (pos + (rune (s.drop pos)).2)
      have hnz := Lib.iterAt_size wr (w.heap.size + 1) (text s) (pos + (rune (s.drop pos)).2)
      have hmeas := iter_is hit
      have W1 := hid (HW.out pos e out HST.out hp)
      have O1 := hid (HO.out pos e out HST.out hp)
      have B1 := hid (@(HB.out pos e out HST.out))
      have S1 := hid (@(HS.out pos e out HST.out hp))
      have P1 := hid (HP.out pos e out HST.out hp)
      have R1 := hid (fun c => @rune_is (s.drop pos) c hne)
      have X1 := HX.out pos
      have HN := hid hnew
      have HNB := hid hnb
      have HNI := hid hni
      have HM := hid hmeas
      clear hit hIs hbr hnew hnb hni hmeas hps hne hfi hdec
      have hdl : (s.drop pos).length = s.length - pos := List.length_drop
      generalize s.drop pos = m at *
      generalize rune m = q at *
      obtain ⟨c, k⟩ := q
      dsimp only at hnx hk1 hfl hrle HN HNB HNI hnz W1 O1 B1 S1 P1 R1
      generalize wr.iterAt (w.heap.size + 1) (text s) (pos + k) = w4 at *
      have hz4 : w.heap.size + 2 ≤ w4.heap.size := by omega
      by_cases hlt : pos < e
      · have R := hid (W1.out hlt)
        go_wp2_with fail
        go_roundw
        case rel => exact ⟨pos + k, e, out, rfl, HN.out, R, HNI.out, HNB.out, hz4⟩
        case measure => rw [HM.out, iter_is HN.out]; omega
      · by_cases h34 : c = 34
        · have z34 : ((c : Int) == 34) = true := by rw [beq_iff_eq]; omega
          have R := hid (O1.out hlt h34)
          have hstr := Bld.String_any (w.heap.size + 2) w.heap.size out w4 HNI.out
          have HSR := hid hstr
          clear hstr h34
          go_wp2_with fail
          refine HSR.out.mono ?_
          rintro ee w5 ⟨rfl, hb5⟩
          go_wp2
          go_ret3
          refine ⟨?_, HNB.out.trans hb5⟩
          rw [HQ.out, R.out.1]
          show Ending.returned (.tuple #[.string (text out), .int .i64 ((pos : Int) + 1), .int .i64 0]) = _
          rw [show (((1 + (out, pos, 0).2.1 : Nat)) : Int) = (pos : Int) + 1 from by show ((1 + pos : Nat) : Int) = _; omega]
          rfl
        · have z34 : ((c : Int) == 34) = false := by rw [beq_eq_false_iff_ne]; omega
          by_cases h92 : c = 92
          · have z92 : ((c : Int) == 92) = true := by rw [beq_iff_eq]; omega
            obtain ⟨t, ht, hk⟩ := R1.out 92 h92 (by omega)
            have ht' : m = 92 :: t := ht
            have htl := congrArg List.length ht'
            rw [List.length_cons, hdl] at htl
            have hesc := fun w hE => escape_any t (by omega) w hE
            rw [← ht'] at hesc
            have hE4 := HE.out.below HNB.out (Nat.le_refl _)
            have HE4 := hid hE4
            clear hE4 h92 h34
            cases hn : escN t with
            | none =>
              have R := hid (B1.out hlt ht' hn)
              have hep : escP t = (0, 0) := by unfold escP; rw [hn]
              rw [hep] at hesc
              have HC := hid hesc
              clear hn hep hesc ht ht' hk
              go_wp2_with fail
              refine (HC.out _ HE4.out).mono ?_
              rintro ee w5 ⟨rfl, hb5⟩
              go_wp2
              go_ret3
              refine ⟨?_, HNB.out.trans (hb5.mono (by omega))⟩
              rw [HQ.out, R.out.1]
              have := R.out.2
              show Ending.returned (.tuple #[.string (text []), .int .i64 (pos : Int), .int .i64 11]) = _
              rw [show (((1 + (([] : List UInt8), pos - 1, 11).2.1 : Nat)) : Int) = (pos : Int) from by show ((1 + (pos - 1) : Nat) : Int) = _; omega]
              rfl
            | some y =>
              obtain ⟨c2, k2⟩ := y
              have R := hid (S1.out hlt ht' hn)
              have hy := escN_some hn
              have hc2 : (c2 : Int) ≤ 1114111 := by have := (nfine_iff _).1 hy.1; omega
              have hc20 : 0 ≤ (c2 : Int) := by omega
              have hep : escP t = (c2, 1 + k2) := by unfold escP; rw [hn]
              rw [hep] at hesc
              have HC := hid hesc
              have hy2 := hy.2.2
              have hz : (((1 + k2 : Nat) : Int) == 0) = false := by rw [beq_eq_false_iff_ne]; omega
              have HK := hid hk
              clear hn hep hesc ht ht' hk hy
              generalize hkk : 1 + k2 = k3 at *
              go_wp2_with fail
              refine (HC.out _ HE4.out).mono ?_
              rintro ee w5 ⟨rfl, hb5⟩
              have hz5 := hb5.size
              have HB5 := hid hb5
              have HIT5 := hid ((hb5.block (w.heap.size + 1) (by omega)).trans HN.out)
              have HI5 := hid (HNI.out.later hb5)
              clear hb5
              go_wp2_with fail
              refine (Bld.WriteRune_any (w.heap.size + 2) w.heap.size out (c2 : Int) hc20 hc2 _ HI5.out (by omega) (by omega)).mono ?_
              rintro ee w6 ⟨rfl, hI6, hB6⟩
              have HI6 := hid hI6
              have HB6 := hid hB6
              clear hI6 hB6
              have hz6 := HB6.out.size
              have HIT := hid ((HB6.out.block (w.heap.size + 1) (by omega) (by omega)).trans HIT5.out)
              go_wp2_with fail
              go_roundw
              case rel => exact ⟨pos + k, pos + k3, out ++ enc (c2 : Int), by go_num, HIT.out, by rw [HK.out]; exact R, HI6.out, (HNB.out.trans (HB5.out.mono (by omega))).trans (HB6.out.below (Nat.le_refl _) (by omega)), by omega⟩
              case measure => rw [HM.out, iter_is HIT.out]; omega
          · have z92 : ((c : Int) == 92) = false := by rw [beq_eq_false_iff_ne]; omega
            have R := hid (P1.out hlt h34 h92)
            have hc0 : 0 ≤ (c : Int) := by omega
            clear h34 h92
            go_wp2_with fail
            refine (Bld.WriteRune_any (w.heap.size + 2) w.heap.size out (c : Int) hc0 hfl _ HNI.out (by omega) hz4).mono ?_
            rintro ee w5 ⟨rfl, hI5, hB5⟩
            have HI5 := hid hI5
            have HB5 := hid hB5
            clear hI5 hB5
            have hz5 := HB5.out.size
            have HIT := hid ((HB5.out.block (w.heap.size + 1) (by omega) (by omega)).trans HN.out)
            go_wp2_with fail
            go_roundw
            case rel => exact ⟨pos + k, e, out ++ enc (c : Int), rfl, HIT.out, R, HI5.out, HNB.out.trans (HB5.out.below (Nat.le_refl _) (by omega)), by omega⟩
            case measure => rw [HM.out, iter_is HIT.out]; omega
    · have hps : ¬ pos < (text s).size := by rw [s1, ← hlen]; exact hp
      have hnx : ∀ ty, (Instr.next (.pointer (some ⟨w.heap.size + 1, 0, none⟩)) true ty).run Tryz.prog wr = _ := fun ty => Lib.run_next_end_at wr (w.heap.size + 1) (text s) pos ty hit hps
      have R := hid (HD.out pos e out HST.out hp)
      have HBR := hid hbr
      clear hit hIs hbr hps
      go_wp2
      go_ret3
      refine ⟨?_, HBR.out⟩
      rw [HQ.out, R.out]
      show Ending.returned (.tuple #[.string (text []), .int .i64 ((r.length : Int) + 1), .int .i64 10]) = _
      rw [show (((1 + (([] : List UInt8), r.length, 10).2.1 : Nat)) : Int) = (r.length : Int) + 1 from by show ((1 + r.length : Nat) : Int) = _; omega]
      rfl
end Go.Proofs.YtblpckeimdmpaaaGreatDoor.Fx
namespace Go.Proofs.YtblpckeimdmpaaaGreatDoor.Fx
open Go Go.Proofs.YtblpckeimdmpaaaGreatDoor Go.Proofs.YtblpckeimdmpaaaGreatDoor.Utf Go.Proofs.YtblpckeimdmpaaaGreatDoor.Names Go.Proofs.YtblpckeimdmpaaaGreatDoor.Ent Go.Proofs.YtblpckeimdmpaaaGreatDoor.Fl Go.RowKit
set_option maxRecDepth 100000

theorem results_three {fn : Func} {p u x : Tmp} {ty : TypeId} (h : fn.results = #[.cell p ty, .tmp u, .tmp x]) {P : Program} (tmps : Array Value) (w : World) (g : Nat) (cs : Array Value)
    (hp : tmps.getD p undef = .pointer (some ⟨g, 0, none⟩)) (hrun : (loadVar ty ⟨g, 0, none⟩).run P w = .ok (.agg cs) w) :
    (results fn tmps).run P w = .ok (.tuple #[.agg cs, tmps.getD u undef, tmps.getD x undef]) w := by
  simp only [results, h]
  have hp' : tmps[p]?.getD undef = .pointer (some ⟨g, 0, none⟩) := by simpa using hp
  simp [Sem.run_bind, Result.andThen, hp', asAddr, hrun]
/-- Three stores into one block. -/
theorem set3 {w : World} {b : Nat} {a1 a2 a3 : Value} {ty : TypeId} (h : w.heap[b]? = some (.cells #[a1, a2, a3] ty (0, 0))) (x y z : Value) :
    (((w.setCell ⟨b, 0, none⟩ x).setCell ⟨b, 1, none⟩ y).setCell ⟨b, 2, none⟩ z).heap[b]? = some (.cells #[x, y, z] ty (0, 0)) ∧ ∀ B, B ≤ b → Below B w (((w.setCell ⟨b, 0, none⟩ x).setCell ⟨b, 1, none⟩ y).setCell ⟨b, 2, none⟩ z) := by
  refine ⟨by simp [World.setCell, Array.getElem?_modify, h], fun B hB => ?_⟩
  exact (((Below.refl B w).setCell (p := ⟨b, 0, none⟩) hB x).setCell (p := ⟨b, 1, none⟩) hB y).setCell (p := ⟨b, 2, none⟩) hB z
theorem sizLex : (Tryz.prog.info? 32).map (·.size) = some 3 := by kernel_rfl
theorem below_drew {B : Nat} {a b : World} (h : Below B a b) : Below B a b.drew := below_drewN h 1
def lexV (k : Nat) (s : List UInt8) : Array Value := #[.int .i64 k, .int .i64 0, .string (text s)]
theorem kind_key (x : List UInt8) : (if keyB x = true then 1 else 0 : Nat) ≤ 1 := by split <;> omega

set_option maxHeartbeats 1000000 in
theorem word_any (x : List UInt8) (hx : x.length ≤ 1000000) (mb : Nat) (w : World) (hm : KeyMap w mb) :
    Calls Tryz.prog 38 #[.string (text x), .map (some mb)] w fun e w' => e = .returned (.agg (lexV (if keyB x = true then 1 else 0) x)) ∧ Below w.heap.size w w' := by
  have hm1 : KeyMap (w.alloc (.cells #[.int .i64 0, .int .i64 0, .string ⟨#[]⟩] 32)) mb := hm.below (ba (b0 w) _)
  have hlk := key_lookup hm1 x (by omega)
  have p1 := heap_alloc_new w (.cells #[.int .i64 0, .int .i64 0, .string ⟨#[]⟩] 32)
  have hb0 := ba (b0 w) (.cells #[.int .i64 0, .int .i64 0, .string ⟨#[]⟩] 32)
  have d0 : (w.alloc (.cells #[.int .i64 0, .int .i64 0, .string ⟨#[]⟩] 32)).cell? ⟨w.heap.size, 0, none⟩ = some (.int .i64 0) := by rw [Lib.cell_of_heap p1]; rfl
  have d1 : (w.alloc (.cells #[.int .i64 0, .int .i64 0, .string ⟨#[]⟩] 32)).cell? ⟨w.heap.size, 1, none⟩ = some (.int .i64 0) := by rw [Lib.cell_of_heap p1]; rfl
  have d2 : (w.alloc (.cells #[.int .i64 0, .int .i64 0, .string ⟨#[]⟩] 32)).cell? ⟨w.heap.size, 2, none⟩ = some (.string ⟨#[]⟩) := by rw [Lib.cell_of_heap p1]; rfl
  have f0 := Lib.frozen_of_heap p1 0
  have f1 := Lib.frozen_of_heap p1 1
  have f2 := Lib.frozen_of_heap p1 2
  have P1 := hid p1
  have HB := hid hb0
  clear p1 hb0 hm hm1
  cases hk : keyB x
  all_goals
    rw [hk] at hlk
    have HK := hid hk
    clear hk
    go_enter Tryz.func38, Tryz.ntmps38
    go_wp2
  · refine bodyPost_ret (results_cell_row rfl _ _ _ _ (lexV 0 x) _ _ rfl (heap_alloc_new w (.cells (lexV 0 x) 32)) Tryz.underlying32 rfl sizLex) rfl ?_
    exact ⟨rfl, ba (b0 w) _⟩
  · refine bodyPost_ret (results_cell_row rfl _ _ _ _ (lexV 1 x) _ _ rfl (heap_alloc_new w (.cells (lexV 1 x) 32)) Tryz.underlying32 rfl sizLex) rfl ?_
    exact ⟨rfl, ba (b0 w) _⟩

theorem wordF_step (f : Nat) (s : Bool) (l : List UInt8) : wordF (f + 1) s l = if (rune l).2 ≠ 0 ∧ Utf.next (rune l).1 = true ∧ (s = true → Utf.first (rune l).1 = true) then (rune l).2 + wordF f false (l.drop (rune l).2) else 0 := rfl
/-- How many bytes a word has. -/
theorem words_any (l : List UInt8) (hl : l.length ≤ 1000000) (hck : check l = l.length) (hne : l ≠ []) (hf : Utf.first (rune l).1 = true) (w : World) :
    Calls Tryz.prog 39 #[.string (text l), .func (.func 40) #[] #[]] w fun e w' => e = .returned (.int .i64 (wordN l)) ∧ Below w.heap.size w w' := by
  have hn : Utf.next (rune l).1 = true := (Utf.next_iff _).2 (.inl hf)
  have e0 : wordF l.length false l = wordN l := by
    unfold wordN
    obtain ⟨n, hn1⟩ : ∃ n, l.length = n + 1 := ⟨l.length - 1, by have := List.length_pos_iff.2 hne; omega⟩
    rw [hn1, wordF_step, wordF_step]
    by_cases h0 : (rune l).2 = 0
    · rw [if_neg (fun h => h.1 h0), if_neg (fun h => h.1 h0)]
    · rw [if_pos ⟨h0, hn, by intro c; cases c⟩, if_pos ⟨h0, hn, fun _ => hf⟩]
  refine runEnd_any 40 Utf.next (fun c w => Next_any c w) (enters_of Tryz.func40 (by kernel_rfl) rfl) l (by omega) (wordN l) (fun pos => Edge l pos ∧ pos + wordF (l.length - pos) false (l.drop pos) = wordN l) ⟨Edge.start hck, by rw [Nat.zero_add, List.drop_zero, Nat.sub_zero, e0]⟩ ?_ ?_ w
  · rintro pos ⟨h1, h2⟩ hp
    obtain ⟨s1, s2, s3, s4⟩ := h1.step hp
    rw [s4]
    have hr := (rune_le (l.drop pos)).1
    rw [List.length_drop] at hr
    obtain ⟨n, hn1⟩ : ∃ n, l.length - pos = n + 1 := ⟨l.length - pos - 1, by omega⟩
    rw [hn1, wordF_step] at h2
    constructor
    · intro h
      rw [if_pos ⟨s1, h, by intro c; cases c⟩, List.drop_drop] at h2
      refine ⟨s3, ?_⟩
      rw [← h2, wordF_eq (l.length - (pos + (rune (l.drop pos)).2)) n false (l.drop (pos + (rune (l.drop pos)).2)) (by rw [List.length_drop]; omega) (by rw [List.length_drop]; omega)]
      omega
    · intro h
      rw [if_neg (fun x => by rw [h] at x; exact absurd x.2.1 (by simp))] at h2
      omega
  · rintro pos ⟨h1, h2⟩ hp
    have : pos = l.length := by have := h1.1; omega
    subst this
    rw [Nat.sub_self] at h2
    exact h2
theorem wordN_pos {l : List UInt8} (hne : (rune l).2 ≠ 0) (hf : Utf.first (rune l).1 = true) : 0 < wordN l := by
  have hr := (rune_le l).1
  obtain ⟨n, hn1⟩ : ∃ n, l.length = n + 1 := ⟨l.length - 1, by omega⟩
  unfold wordN
  rw [hn1, wordF_step, if_pos ⟨hne, (Utf.next_iff _).2 (.inl hf), fun _ => hf⟩]
  omega
theorem wordN_no {l : List UInt8} (hf : Utf.first (rune l).1 = false) : wordN l = 0 := by
  unfold wordN
  rcases hn : l.length with _ | n
  · rfl
  · rw [wordF_step, if_neg]
    intro h
    have := h.2.2 rfl
    rw [hf] at this; cases this

/-- A token, or an error, as the code hands it on. -/
def frontV : One → Value
  | .tok k s n => .tuple #[.agg (lexV k s), .int .i64 n, .int .i64 0]
  | .bad p e => .tuple #[.agg (lexV 0 []), .int .i64 p, .int .i64 e]

theorem one_quoted {t : List UInt8} (hw : wordN (34 :: t) = 0) : Fl.one (34 :: t) = Fl.quoted t := by
  have hn : numB (34 :: t) = false := by
    show (Fl.isd 34 || dotted (34 :: t)) = false
    rw [show Fl.isd 34 = false from by decide, Bool.false_or]
    cases t <;> rfl
  unfold Fl.one
  rw [if_neg (by omega), if_neg (by rw [hn]; simp), if_pos (by rfl)]
  rfl
theorem one_number {l : List UInt8} (hw : wordN l = 0) (h : 0 < numN l) : Fl.one l = .tok 2 (l.take (numN l)) (numN l) := by
  have hn : numB l = true := by
    cases hb : numB l
    · have := numB_zero hb; omega
    · rfl
  unfold Fl.one
  rw [if_neg (by omega), if_pos hn]
theorem one_signed {l : List UInt8} (hw : wordN l = 0) (h : numN l = 0) (h34 : l.head? ≠ some 34) : Fl.one l = if signN l = 0 then .bad 0 11 else .tok 4 (l.take (signN l)) (signN l) := by
  have hn : ¬ numB l = true := fun hb => by have := numB_pos hb; omega
  unfold Fl.one
  rw [if_neg (by omega), if_neg hn, if_neg h34]

set_option maxHeartbeats 4000000 in
theorem front_any (l : List UInt8) (hl : l.length ≤ 1000000) (hck : check l = l.length) (hne : l ≠ []) (c : Nat) (hc : (rune l).1 = c) (mb : Nat) (w : World) (hm : KeyMap w mb) (hE : Errs w) (hS : Signs w) :
    Calls Tryz.prog 17 #[.string (text l), .int .i32 c, .map (some mb)] w fun e w' => e = .returned (frontV (Fl.one l)) ∧ Below w.heap.size w w' := by
  have s1 : (text l).size = l.length := text_size l
  have hrn : (rune l).2 ≠ 0 := by
    intro h0
    have := check_stop h0
    rw [hck] at this
    exact hne (List.eq_nil_of_length_eq_zero this)
  obtain ⟨hfi, _⟩ := rune_some (l := l) (c := (rune l).1) (k := (rune l).2) rfl hrn
  have hcl : (c : Int) ≤ 1114111 := by rw [hc] at hfi; have := (nfine_iff _).1 hfi; omega
  have hF := fun w => First_any (c : Int) w
  have hb0 := ba (b0 w) (.cells #[.int .i64 0, .int .i64 0, .string ⟨#[]⟩] 32)
  have hz0 : (w.alloc (.cells #[.int .i64 0, .int .i64 0, .string ⟨#[]⟩] 32)).heap.size = w.heap.size + 1 := by simp
  have p0 := heap_alloc_new w (.cells #[.int .i64 0, .int .i64 0, .string ⟨#[]⟩] 32)
  have hm1 : KeyMap (w.alloc (.cells #[.int .i64 0, .int .i64 0, .string ⟨#[]⟩] 32)) mb := hm.below hb0
  have hE1 := hE.below hb0 (Nat.le_refl _)
  have hS1 := hS.below hb0 (Nat.le_refl _)
  have HB0 := hid hb0
  have P0 := hid p0
  have HM := hid hm1
  have HE := hid hE1
  have HS := hid hS1
  clear hb0 p0 hm hm1 hE hE1 hS hS1
  cases hf : Utf.first (c : Int)
  · rw [hf] at hF
    have hf' : Utf.first ((rune l).1 : Int) = false := by rw [hc]; exact hf
    have hw0 := wordN_no hf'
    have HF := hid hF
    clear hF hf hf'
    by_cases h34 : c = 34
    · have z34 : ((c : Int) == 34) = true := by rw [beq_iff_eq]; omega
      obtain ⟨t, ht, _⟩ := rune_is hrn (hc.trans h34) (by omega)
      have ht' : l = 34 :: t := ht
      subst ht'
      have hq := fun w hE => quoted_any t (by simp at hl; omega) hck w hE
      have hone := one_quoted hw0
      unfold Fl.quoted at hone
      unfold quotedV at hq
      have hse := fun h => str_error (m := t) h
      have hsf := str_facts _ t rfl
      have hpl : 1 + (str t).2.1 ≤ 1000000 := by have := hsf.1; simp at hl; omega
      have hel := hsf.2.1
      have HQ := hid hq
      have HO := hid hone
      have HSE := hid hse
      clear hq hone hse hck hne hc hrn hfi hw0 ht h34 hsf
      obtain ⟨⟨sv, sp, se⟩, hst⟩ : ∃ x, x = str t := ⟨_, rfl⟩
      rw [← hst] at HQ HO HSE hpl hel
      dsimp only at HQ HO HSE hpl hel
      clear hst
      generalize hsp : 1 + sp = n at *
      by_cases he : se = 0
      · have ze : ((se : Int) == 0) = true := by rw [beq_iff_eq]; omega
        have HO2 : Hid _ := hid (HO.out.trans (if_pos he))
        subst he
        clear HO HSE
        go_enter Tryz.func17, Tryz.ntmps17
        go_wp2_with fail
        refine (HF.out _).mono ?_
        rintro e w2 ⟨rfl, rfl⟩
        go_wp2_with fail
        refine (HQ.out _ HE.out).mono ?_
        rintro e w3 ⟨rfl, hb3⟩
        have hz3 := hb3.size
        rw [hz0] at hz3
        have p3 := (hb3.block w.heap.size (by omega)).trans P0.out
        have d0 : w3.cell? ⟨w.heap.size, 0, none⟩ = some (.int .i64 0) := by rw [Lib.cell_of_heap p3]; rfl
        have d1 : w3.cell? ⟨w.heap.size, 1, none⟩ = some (.int .i64 0) := by rw [Lib.cell_of_heap p3]; rfl
        have d2 : w3.cell? ⟨w.heap.size, 2, none⟩ = some (.string ⟨#[]⟩) := by rw [Lib.cell_of_heap p3]; rfl
        have f0 := Lib.frozen_of_heap p3 0
        have f1 := Lib.frozen_of_heap p3 1
        have f2 := Lib.frozen_of_heap p3 2
        have HB := hid hb3
        have P3 := hid p3
        clear hb3 p3
        go_wp2
        obtain ⟨p4, g4⟩ := set3 P3.out (.int .i64 3) (.int .i64 0) (.string (text sv))
        refine bodyPost_ret (results_three rfl _ _ _ _ rfl (run_loadVar_row _ _ _ _ (lexV 3 sv) _ _ p4 Tryz.underlying32 rfl sizLex)) rfl ?_
        exact ⟨by rw [HO2.out]; rfl, (HB0.out.trans (HB.out.mono (by omega))).trans (g4 _ (Nat.le_refl _))⟩
      · have ze : ((se : Int) == 0) = false := by rw [beq_eq_false_iff_ne]; omega
        have HO2 : Hid _ := hid (HO.out.trans (if_neg he))
        clear HO HSE he
        go_enter Tryz.func17, Tryz.ntmps17
        go_wp2_with fail
        refine (HF.out _).mono ?_
        rintro e w2 ⟨rfl, rfl⟩
        go_wp2_with fail
        refine (HQ.out _ HE.out).mono ?_
        rintro e w3 ⟨rfl, hb3⟩
        have hz3 := hb3.size
        rw [hz0] at hz3
        have p3 := (hb3.block w.heap.size (by omega)).trans P0.out
        have d0 : w3.cell? ⟨w.heap.size, 0, none⟩ = some (.int .i64 0) := by rw [Lib.cell_of_heap p3]; rfl
        have d1 : w3.cell? ⟨w.heap.size, 1, none⟩ = some (.int .i64 0) := by rw [Lib.cell_of_heap p3]; rfl
        have d2 : w3.cell? ⟨w.heap.size, 2, none⟩ = some (.string ⟨#[]⟩) := by rw [Lib.cell_of_heap p3]; rfl
        have f0 := Lib.frozen_of_heap p3 0
        have f1 := Lib.frozen_of_heap p3 1
        have f2 := Lib.frozen_of_heap p3 2
        have HB := hid hb3
        have P3 := hid p3
        clear hb3 p3
        go_wp2
        obtain ⟨p4, g4⟩ := set3 P3.out (.int .i64 0) (.int .i64 0) (.string ⟨#[]⟩)
        refine bodyPost_ret (results_three rfl _ _ _ _ rfl (run_loadVar_row _ _ _ _ (lexV 0 []) _ _ p4 Tryz.underlying32 rfl sizLex)) rfl ?_
        exact ⟨by rw [HO2.out]; rfl, (HB0.out.trans (HB.out.mono (by omega))).trans (g4 _ (Nat.le_refl _))⟩
    · have z34 : ((c : Int) == 34) = false := by rw [beq_eq_false_iff_ne]; omega
      have hhd : l.head? ≠ some 34 := by
        intro hh
        rcases l with _ | ⟨b, r⟩
        · cases hh
        · obtain rfl : b = 34 := Option.some.inj hh
          have := rune_enc 34 (by decide) r
          rw [show enc ((34 : Nat) : Int) = [34] from enc_low (by omega)] at this
          rw [show rune (34 :: r) = (34, _) from this] at hc
          exact h34 hc.symm
      have hnu := fun w => numberEnd_any l (by omega) w
      have hnl := numN_le l
      have hxn : (text l).extract 0 (numN l) = text (l.take (numN l)) := by rw [text_cut]; rfl
      have HN := hid hnu
      by_cases hn0 : 0 < numN l
      · have HO := hid (one_number hw0 hn0)
        clear hnu hhd hck hne hc hrn hfi hw0 h34
        generalize l.take (numN l) = x at *
        generalize numN l = n at *
        have hgt : (0 : Int) < (n : Int) := by omega
        go_enter Tryz.func17, Tryz.ntmps17
        go_wp2_with fail
        refine (HF.out _).mono ?_
        rintro e w2 ⟨rfl, rfl⟩
        go_wp2_with fail
        refine (HN.out _).mono ?_
        rintro e w3 ⟨rfl, hb3⟩
        have hz3 := hb3.size
        rw [hz0] at hz3
        have p3 := (hb3.block w.heap.size (by omega)).trans P0.out
        have d0 : w3.cell? ⟨w.heap.size, 0, none⟩ = some (.int .i64 0) := by rw [Lib.cell_of_heap p3]; rfl
        have d1 : w3.cell? ⟨w.heap.size, 1, none⟩ = some (.int .i64 0) := by rw [Lib.cell_of_heap p3]; rfl
        have d2 : w3.cell? ⟨w.heap.size, 2, none⟩ = some (.string ⟨#[]⟩) := by rw [Lib.cell_of_heap p3]; rfl
        have f0 := Lib.frozen_of_heap p3 0
        have f1 := Lib.frozen_of_heap p3 1
        have f2 := Lib.frozen_of_heap p3 2
        have HB := hid hb3
        have P3 := hid p3
        clear hb3 p3
        go_wp2
        obtain ⟨p4, g4⟩ := set3 P3.out (.int .i64 2) (.int .i64 0) (.string (text x))
        refine bodyPost_ret (results_three rfl _ _ _ _ rfl (run_loadVar_row _ _ _ _ (lexV 2 x) _ _ p4 Tryz.underlying32 rfl sizLex)) rfl ?_
        exact ⟨by rw [HO.out]; rfl, (HB0.out.trans (HB.out.mono (by omega))).trans (g4 _ (Nat.le_refl _))⟩
      · have hn1 : numN l = 0 := by omega
        have hone := one_signed hw0 hn1 hhd
        have hsg := fun w hS => signEnd_any l w hS
        have hsl := signN_le l
        have hxs : (text l).extract 0 (signN l) = text (l.take (signN l)) := by rw [text_cut]; rfl
        rw [hn1] at HN
        have HG := hid hsg
        clear hnu hhd hck hne hc hrn hfi hw0 h34 hxn hn0 hn1 hsg hnl
        by_cases hs0 : signN l = 0
        · rw [if_pos hs0] at hone
          rw [hs0] at HG
          have HO := hid hone
          clear hone hxs hs0
          go_enter Tryz.func17, Tryz.ntmps17
          go_wp2_with fail
          refine (HF.out _).mono ?_
          rintro e w2 ⟨rfl, rfl⟩
          go_wp2_with fail
          refine (HN.out _).mono ?_
          rintro e w3 ⟨rfl, hb3⟩
          have hz3 := hb3.size
          rw [hz0] at hz3
          have p3 := (hb3.block w.heap.size (by omega)).trans P0.out
          have d0 : w3.cell? ⟨w.heap.size, 0, none⟩ = some (.int .i64 0) := by rw [Lib.cell_of_heap p3]; rfl
          have d1 : w3.cell? ⟨w.heap.size, 1, none⟩ = some (.int .i64 0) := by rw [Lib.cell_of_heap p3]; rfl
          have d2 : w3.cell? ⟨w.heap.size, 2, none⟩ = some (.string ⟨#[]⟩) := by rw [Lib.cell_of_heap p3]; rfl
          have f0 := Lib.frozen_of_heap p3 0
          have f1 := Lib.frozen_of_heap p3 1
          have f2 := Lib.frozen_of_heap p3 2
          have HB := hid hb3
          have P3 := hid p3
          have HS3 := hid (HS.out.below hb3 (Nat.le_refl _))
          clear hb3 p3
          go_wp2_with fail
          refine (HG.out _ HS3.out).mono ?_
          rintro e w4 ⟨rfl, rfl⟩
          go_wp2
          obtain ⟨p4, g4⟩ := set3 P3.out (.int .i64 0) (.int .i64 0) (.string ⟨#[]⟩)
          refine bodyPost_ret (results_three rfl _ _ _ _ rfl (run_loadVar_row _ _ _ _ (lexV 0 []) _ _ p4 Tryz.underlying32 rfl sizLex)) rfl ?_
          exact ⟨by rw [HO.out]; rfl, (HB0.out.trans (HB.out.mono (by omega))).trans (g4 _ (Nat.le_refl _))⟩
        · rw [if_neg hs0] at hone
          have HO := hid hone
          clear hone
          generalize l.take (signN l) = x at *
          generalize signN l = n at *
          have hgt : (0 : Int) < (n : Int) := by omega
          clear hs0
          go_enter Tryz.func17, Tryz.ntmps17
          go_wp2_with fail
          refine (HF.out _).mono ?_
          rintro e w2 ⟨rfl, rfl⟩
          go_wp2_with fail
          refine (HN.out _).mono ?_
          rintro e w3 ⟨rfl, hb3⟩
          have hz3 := hb3.size
          rw [hz0] at hz3
          have p3 := (hb3.block w.heap.size (by omega)).trans P0.out
          have d0 : w3.cell? ⟨w.heap.size, 0, none⟩ = some (.int .i64 0) := by rw [Lib.cell_of_heap p3]; rfl
          have d1 : w3.cell? ⟨w.heap.size, 1, none⟩ = some (.int .i64 0) := by rw [Lib.cell_of_heap p3]; rfl
          have d2 : w3.cell? ⟨w.heap.size, 2, none⟩ = some (.string ⟨#[]⟩) := by rw [Lib.cell_of_heap p3]; rfl
          have f0 := Lib.frozen_of_heap p3 0
          have f1 := Lib.frozen_of_heap p3 1
          have f2 := Lib.frozen_of_heap p3 2
          have HB := hid hb3
          have P3 := hid p3
          have HS3 := hid (HS.out.below hb3 (Nat.le_refl _))
          clear hb3 p3
          go_wp2_with fail
          refine (HG.out _ HS3.out).mono ?_
          rintro e w4 ⟨rfl, rfl⟩
          go_wp2
          obtain ⟨p4, g4⟩ := set3 P3.out (.int .i64 4) (.int .i64 0) (.string (text x))
          refine bodyPost_ret (results_three rfl _ _ _ _ rfl (run_loadVar_row _ _ _ _ (lexV 4 x) _ _ p4 Tryz.underlying32 rfl sizLex)) rfl ?_
          exact ⟨by rw [HO.out]; rfl, (HB0.out.trans (HB.out.mono (by omega))).trans (g4 _ (Nat.le_refl _))⟩
  · rw [hf] at hF
    have hf' : Utf.first ((rune l).1 : Int) = true := by rw [hc]; exact hf
    have hwp := wordN_pos hrn hf'
    have hwl := wordN_le l
    have hone : Fl.one l = .tok (if keyB (l.take (wordN l)) = true then 1 else 0) (l.take (wordN l)) (wordN l) := by unfold Fl.one; rw [if_pos hwp]
    have hw := fun w => words_any l hl hck hne hf' w
    have hx : (text l).extract 0 (wordN l) = text (l.take (wordN l)) := by rw [text_cut]; rfl
    have htl : (l.take (wordN l)).length = wordN l := by rw [List.length_take]; omega
    have s2 : (text (l.take (wordN l))).size = wordN l := by rw [text_size]; exact htl
    have hwd := fun mb w hm => word_any (l.take (wordN l)) (by omega) mb w hm
    have hkk := kind_key (l.take (wordN l))
    have HF := hid hF
    have HW := hid hw
    have HD := hid hwd
    have HO := hid hone
    clear hF hw hwd hone hf hf' hck hne hc hrn hfi
    generalize (if keyB (l.take (wordN l)) = true then 1 else 0 : Nat) = kk at *
    generalize l.take (wordN l) = x at *
    generalize wordN l = n at *
    unfold lexV at HD
    have mixed : Tryz.prog.follows Departure.mixedOrders = true := by kernel_rfl
    go_enter Tryz.func17, Tryz.ntmps17
    go_wp2_with fail
    refine (HF.out _).mono ?_
    rintro e w2 ⟨rfl, rfl⟩
    go_wp2_with fail
    refine (HW.out _).mono ?_
    rintro e w3 ⟨rfl, hb3⟩
    go_wp2_with fail
    refine (HD.out mb _ (HM.out.below hb3)).mono ?_
    rintro e w4 ⟨rfl, hb4⟩
    have hb14 := bt hb3 hb4
    have hz4 := hb14.size
    rw [hz0] at hz4
    have p4 := (hb14.block w.heap.size (by omega)).trans P0.out
    have p5 := (Below.heap_alloc w4 (.cells #[.int .i64 kk, .int .i64 0, .string (text x)] 32) w.heap.size (by omega)).trans p4
    have d0 : (w4.alloc (.cells #[.int .i64 kk, .int .i64 0, .string (text x)] 32)).cell? ⟨w.heap.size, 0, none⟩ = some (.int .i64 0) := by rw [Lib.cell_of_heap p5]; rfl
    have d1 : (w4.alloc (.cells #[.int .i64 kk, .int .i64 0, .string (text x)] 32)).cell? ⟨w.heap.size, 1, none⟩ = some (.int .i64 0) := by rw [Lib.cell_of_heap p5]; rfl
    have d2 : (w4.alloc (.cells #[.int .i64 kk, .int .i64 0, .string (text x)] 32)).cell? ⟨w.heap.size, 2, none⟩ = some (.string ⟨#[]⟩) := by rw [Lib.cell_of_heap p5]; rfl
    have f0 := Lib.frozen_of_heap p5 0
    have f1 := Lib.frozen_of_heap p5 1
    have f2 := Lib.frozen_of_heap p5 2
    have HB := hid hb14
    have P5 := hid p5
    clear hb3 hb4 hb14 p4 p5
    go_wp2_with fail
    go_region
    go_wp2
    obtain ⟨p3, g3⟩ := set3 P5.out (.int .i64 kk) (.int .i64 0) (.string (text x))
    refine bodyPost_ret (results_three rfl _ _ _ _ rfl (run_loadVar_row _ _ _ _ (lexV kk x) _ _ p3 Tryz.underlying32 rfl sizLex)) rfl ?_
    refine ⟨by rw [HO.out]; rfl, below_drew ?_⟩
    exact (((HB0.out.trans (HB.out.mono (by omega))).alloc (by omega) _)).trans (g3 _ (Nat.le_refl _))
end Go.Proofs.YtblpckeimdmpaaaGreatDoor.Fx
namespace Go.Proofs.YtblpckeimdmpaaaGreatDoor.Fx
open Go Go.Proofs.YtblpckeimdmpaaaGreatDoor Go.Proofs.YtblpckeimdmpaaaGreatDoor.Utf Go.Proofs.YtblpckeimdmpaaaGreatDoor.Names Go.Proofs.YtblpckeimdmpaaaGreatDoor.Fl Go.RowKit
set_option maxRecDepth 100000

/-- Pieces of the same length, one behind the other. -/
theorem flat_get {α β : Type} (k : Nat) (f : α → List β) (hf : ∀ x, (f x).length = k) (l : List α) (i j : Nat) (hj : j < k) : (l.flatMap f)[i * k + j]? = (l[i]?).bind fun x => (f x)[j]? := by
  induction l generalizing i with
  | nil => simp
  | cons x l ih =>
    rw [List.flatMap_cons]
    cases i with
    | zero => rw [Nat.zero_mul, Nat.zero_add, List.getElem?_append_left (by rw [hf]; exact hj)]; rfl
    | succ i =>
      rw [List.getElem?_append_right (by rw [hf, Nat.succ_mul]; omega), hf, show (i + 1) * k + j - k = i * k + j from by rw [Nat.succ_mul]; omega, ih]
      rfl
/-- A token, of any numbers. -/
structure Lz where
  kind : Int
  place : Int
  s : List UInt8
def lz (t : Lx) : Lz := ⟨t.kind, t.place, t.s⟩
def lzCells (t : Lz) : List Value := [.int .i64 t.kind, .int .i64 t.place, .string (text t.s)]
/-- A row of tokens. -/
def Lexs (w : World) (v : Value) (l : List Lz) : Prop := Row 3 w v l.length (l.flatMap lzCells)
/-- A row of tokens that the call owns. -/
def OwnL (B : Nat) (w : World) (v : Value) (l : List Lz) : Prop := w.ownsRow B 32 3 v l.length (l.flatMap lzCells)
theorem lzCells_one (l : List Lz) : ∀ u ∈ l.flatMap lzCells, u.oneCell' = true := by
  intro u hu
  obtain ⟨p, _, h⟩ := List.mem_flatMap.1 hu
  simp only [lzCells, List.mem_cons, List.mem_nil_iff, or_false] at h
  rcases h with rfl | rfl | rfl <;> rfl
section
variable {w w' : World} {v v' : Value} {l : List Lz}
theorem OwnL.lexs {B : Nat} (h : OwnL B w v l) (hn : l.length ≤ 281474976710656) : Lexs w v l := Row.ofOwns h hn
theorem OwnL.nil (B : Nat) (w : World) : OwnL B w (.slice none 0 0) [] := ⟨by simp, .inl ⟨rfl, rfl⟩⟩
theorem OwnL.later {B : Nat} (h : OwnL B w v l) (hb : Below w.heap.size w w') : OwnL B w' v l := owns_later h hb
theorem OwnL.snoc {B : Nat} {t : Lz} (h : w'.ownsRow B 32 3 v' (l.length + 1) (l.flatMap lzCells ++ lzCells t)) : OwnL B w' v' (l ++ [t]) := by
  unfold OwnL
  rw [List.length_append, List.flatMap_append, List.flatMap_singleton]
  exact h
theorem OwnL.base {B B' : Nat} (h : OwnL B w v l) (hB : B' ≤ B) : OwnL B' w v l := by
  obtain ⟨h1, h2⟩ := h
  refine ⟨h1, ?_⟩
  rcases h2 with h2 | ⟨g, cap, cur, hv, hg, r⟩
  · exact .inl h2
  · exact .inr ⟨g, cap, cur, hv, Nat.le_trans hB hg, r⟩
theorem Lexs.nil (w : World) : Lexs w (.slice none 0 0) [] := Row.nil 3 w
theorem Lexs.below (h : Lexs w v l) {B : Nat} (hb : Below B w w') (hB : w.heap.size ≤ B) : Lexs w' v l := Row.below h hb hB
theorem Lexs.len {P : Program} (h : Lexs w v l) (t ty e : TypeId) (ht : P.underlying t = some (.slice e)) (W : World) : (Builtin.len_ #[t] ty #[v]).run P W = .ok (.int .i64 l.length) W := Row.len h t ty e ht W
theorem Lexs.at {P : Program} (h : Lexs w v l) (i : Nat) (hi : i < l.length) (t e : TypeId) (ht : P.underlying t = some (.slice e)) (hs : ∀ W, (sizeOf e).run P W = .ok 3 W) :
    ∃ b o, (∀ k W, (Instr.indexAt t v (.int k i)).run P W = .ok (.pointer (some ⟨b, o, none⟩)) W) ∧
      w.cell? ⟨b, o, none⟩ = some (.int .i64 l[i].kind) ∧ w.cell? ⟨b, o + 1, none⟩ = some (.int .i64 l[i].place) ∧ w.cell? ⟨b, o + 2, none⟩ = some (.string (text l[i].s)) := by
  obtain ⟨b, o, a1, a2⟩ := Row.at h (by omega) i hi t e ht hs
  have g : ∀ j, j < 3 → (l.flatMap lzCells)[i * 3 + j]? = (lzCells l[i])[j]? := fun j hj => by
    rw [flat_get 3 lzCells (fun _ => rfl) l i j hj, List.getElem?_eq_getElem hi]; rfl
  exact ⟨b, o, a1, by simpa using a2 0 _ (by omega) (by rw [g 0 (by omega)]; rfl), a2 1 _ (by omega) (by rw [g 1 (by omega)]; rfl), a2 2 _ (by omega) (by rw [g 2 (by omega)]; rfl)⟩
end

/-- What is held against each other, with places or without. -/
def keyL (p : Bool) (t : Lz) : Int × List UInt8 × Int := (t.kind, t.s, if p = true then t.place else 0)
open Classical in
noncomputable def sameL (p : Bool) (a b : List Lz) : Bool := decide (a.map (keyL p) = b.map (keyL p))
theorem map_get {α β : Type} (f : α → β) {a b : List α} (h : a.map f = b.map f) (i : Nat) (h1 : i < a.length) (h2 : i < b.length) : f a[i] = f b[i] := by
  have := congrArg (fun l => l[i]?) h
  simpa [h1, h2] using this
theorem map_all {α β : Type} (f : α → β) {a b : List α} (hl : a.length = b.length) (h : ∀ i (h1 : i < a.length) (h2 : i < b.length), f a[i] = f b[i]) : a.map f = b.map f := by
  apply List.ext_getElem
  · simpa using hl
  · intro i h1 h2
    simpa using h i (by simpa using h1) (by simpa using h2)
open Classical in
theorem sameL_len {p : Bool} {a b : List Lz} (h : a.length ≠ b.length) : sameL p a b = false := by
  unfold sameL
  rw [decide_eq_false]
  intro e
  have := congrArg List.length e
  simp at this
  exact h this
open Classical in
theorem sameL_no {p : Bool} {a b : List Lz} (i : Nat) (h1 : i < a.length) (h2 : i < b.length) (h : keyL p a[i] ≠ keyL p b[i]) : sameL p a b = false := by
  unfold sameL
  rw [decide_eq_false]
  exact fun e => h (map_get _ e i h1 h2)
open Classical in
theorem sameL_yes {p : Bool} {a b : List Lz} (h : a.map (keyL p) = b.map (keyL p)) : sameL p a b = true := by
  unfold sameL
  rw [decide_eq_true]
  exact h
theorem text_eq (a b : List UInt8) : ((text a).toList == (text b).toList) = decide (a = b) := by
  rw [Names.text_list, Names.text_list]
  by_cases h : a = b
  · rw [decide_eq_true h, beq_iff_eq]; exact h
  · rw [decide_eq_false h, beq_eq_false_iff_ne]; exact h

theorem undLs : Tryz.prog.underlying 23 = some (.slice 32) := Tryz.underlying23
theorem sizL (W : World) : (sizeOf 32).run Tryz.prog W = .ok 3 W := Tryz.sizeOf32 W

set_option maxHeartbeats 8000000 in
theorem Same_any (p : Bool) (la lb : List Lz) (va vb : Value) (w : World) (ha : Lexs w va la) (hb : Lexs w vb lb) :
    Calls Tryz.prog 9 #[va, vb, .bool p] w fun e w' => e = .returned (.bool (sameL p la lb)) ∧ Below w.heap.size w w' := by
  have lena := fun X => ha.len (P := Tryz.prog) 23 3 32 undLs X
  have lenb := fun X => hb.len (P := Tryz.prog) 23 3 32 undLs X
  have hla : la.length ≤ 281474976710656 := Row.le ha
  by_cases hl : la.length = lb.length
  · have hq : ((la.length : Int) == (lb.length : Int)) = true := by rw [beq_iff_eq]; omega
    have HA := hid ha
    have HB := hid hb
    have HL := hid hl
    rw [← hl] at lenb
    clear ha hb hq hl
    go_enter Tryz.func9, Tryz.ntmps9
    go_wp2_with fail
    go_loopg [7] la.length (fun g iv wr => ∃ n : Nat, iv = .int .i64 n ∧ n + g = la.length ∧ Hid (∀ i (h1 : i < la.length) (h2 : i < lb.length), i < n → keyL p la[i] = keyL p lb[i]) ∧ Below w.heap.size w wr)
    case atStart => exact ⟨0, rfl, by omega, hid (fun i _ _ h => absurd h (by omega)), b0 w⟩
    case round =>
      obtain ⟨n, rfl, hng, HP, hbw⟩ := hrel
      have HBW := hid hbw
      clear hbw
      by_cases hn : n < la.length
      · have hn2 : n < lb.length := by have := HL.out; omega
        have taA := HA.out.below HBW.out (Nat.le_refl _)
        have tbA := HB.out.below HBW.out (Nat.le_refl _)
        obtain ⟨ba1, oa, ia, ka0, ka1, ka2⟩ := taA.at (P := Tryz.prog) n hn 23 32 undLs sizL
        obtain ⟨bb1, ob, ib, kb0, kb1, kb2⟩ := tbA.at (P := Tryz.prog) n hn2 23 32 undLs sizL
        have HNO := hid (fun (h : keyL p la[n] ≠ keyL p lb[n]) => sameL_no (p := p) n hn hn2 h)
        have HNX := hid (fun (h : keyL p la[n] = keyL p lb[n]) i (h1 : i < la.length) (h2 : i < lb.length) (h3 : i < n + 1) => (by
          by_cases e : i = n
          · subst e; exact h
          · exact HP.out i h1 h2 (by omega) : keyL p la[i] = keyL p lb[i]))
        unfold keyL at HNO HNX
        generalize hG : gk = G at *
        clear hG
        generalize hA : la[n] = A at *
        generalize hB : lb[n] = B at *
        have HGA := hid hA
        have HGB := hid hB
        clear hA hB taA tbA
        by_cases hk : A.kind = B.kind
        · have kk : (A.kind == B.kind) = true := by rw [beq_iff_eq]; exact hk
          have kk2 : (A.kind != B.kind) = false := by rw [bne, kk]; rfl
          have HK := hid hk
          clear hk
          by_cases hs : A.s = B.s
          · have ss : ((text A.s).toList == (text B.s).toList) = true := by rw [text_eq, decide_eq_true hs]
            have ss2 : ((text A.s).toList != (text B.s).toList) = false := by rw [bne, ss]; rfl
            have HS := hid hs
            clear hs
            cases p
            case true =>
              by_cases hpl : A.place = B.place
              · have ll : (A.place == B.place) = true := by rw [beq_iff_eq]; exact hpl
                have ll2 : (A.place != B.place) = false := by rw [bne, ll]; rfl
                have HPL := hid hpl
                clear hpl
                go_wp2_with fail
                go_quiet (fail)
                go_wp2_with fail
                go_roundg (G - 1)
                case measure => omega
                case rel => exact ⟨n + 1, by go_num, by omega, hid (HNX.out (by rw [HK.out, HS.out, HPL.out])), below_drewN HBW.out _⟩
              · have ll : (A.place == B.place) = false := by rw [beq_eq_false_iff_ne]; exact hpl
                have ll2 : (A.place != B.place) = true := by rw [bne, ll]; rfl
                have R := hid (HNO.out (fun e => hpl (by have := congrArg (fun x => x.2.2) e; simpa using this)))
                clear hpl
                go_wp2_with fail
                go_quiet (fail)
                go_wp2
                go_ret
                exact ⟨by rw [R.out]; rfl, below_drewN HBW.out _⟩
            case false =>
              go_wp2_with fail
              go_quiet (fail)
              go_wp2_with fail
              go_roundg (G - 1)
              case measure => omega
              case rel => exact ⟨n + 1, by go_num, by omega, hid (HNX.out (by rw [HK.out, HS.out]; simp)), below_drewN HBW.out _⟩
          · have ss : ((text A.s).toList == (text B.s).toList) = false := by rw [text_eq, decide_eq_false hs]
            have ss2 : ((text A.s).toList != (text B.s).toList) = true := by rw [bne, ss]; rfl
            have R := hid (HNO.out (fun e => hs (by have := congrArg (fun x => x.2.1) e; simpa using this)))
            clear hs
            go_wp2_with fail
            go_quiet (fail)
            go_wp2
            go_ret
            exact ⟨by rw [R.out]; rfl, below_drewN HBW.out _⟩
        · have kk : (A.kind == B.kind) = false := by rw [beq_eq_false_iff_ne]; exact hk
          have kk2 : (A.kind != B.kind) = true := by rw [bne, kk]; rfl
          have R := hid (HNO.out (fun e => hk (by have := congrArg (fun x => x.1) e; simpa using this)))
          clear hk
          go_wp2_with fail
          go_quiet (fail)
          go_wp2
          go_ret
          exact ⟨by rw [R.out]; rfl, below_drewN HBW.out _⟩
      · have R := hid (sameL_yes (p := p) (map_all _ HL.out (fun i h1 h2 => HP.out i h1 h2 (by omega))))
        go_wp2
        go_ret
        exact ⟨by rw [R.out]; rfl, HBW.out⟩
  · have hq : ((la.length : Int) == (lb.length : Int)) = false := by rw [beq_eq_false_iff_ne]; omega
    have R := hid (sameL_len (p := p) hl)
    clear ha hb hl
    go_enter Tryz.func9, Tryz.ntmps9
    go_wp2
    go_ret
    exact ⟨by rw [R.out]; rfl, b0 w⟩
end Go.Proofs.YtblpckeimdmpaaaGreatDoor.Fx
namespace Go.Proofs.YtblpckeimdmpaaaGreatDoor.Fx
open Go Go.Proofs.YtblpckeimdmpaaaGreatDoor Go.Proofs.YtblpckeimdmpaaaGreatDoor.Utf Go.Proofs.YtblpckeimdmpaaaGreatDoor.Names Go.Proofs.YtblpckeimdmpaaaGreatDoor.Ent Go.Proofs.YtblpckeimdmpaaaGreatDoor.Fl Go.RowKit
set_option maxRecDepth 100000

/-- Where the walk through a text stands. -/
def Lexed (l : List UInt8) (pos e : Nat) (ts : List Lx) : Prop :=
  Edge l pos ∧ Edge l (max pos e) ∧ lexp 0 l = joinS ts (lexp (max pos e) (l.drop (max pos e))) ∧ ts.length ≤ max pos e
theorem join_nil (x : Except (Nat × Nat) (List Lx)) : joinS [] x = x := by cases x <;> rfl
theorem join_cons (ts : List Lx) (t : Lx) (x : Except (Nat × Nat) (List Lx)) : joinS ts (cons1 t x) = joinS (ts ++ [t]) x := by
  cases x with
  | ok us => show Except.ok (ts ++ t :: us) = Except.ok ((ts ++ [t]) ++ us); rw [List.append_assoc]; rfl
  | error e => rfl
theorem Lexed.start {l : List UInt8} (h : check l = l.length) : Lexed l 0 0 [] := ⟨Edge.start h, Edge.start h, (join_nil _).symm, by simp⟩
section
variable {l : List UInt8} {pos e : Nat} {ts : List Lx}
theorem Lexed.wait (h : Lexed l pos e ts) (hp : pos < l.length) (hlt : pos < e) : Lexed l (pos + (rune (l.drop pos)).2) e ts := by
  obtain ⟨h1, h2, h3, h4⟩ := h
  have hs := h1.step hp
  rw [Nat.max_eq_right (by omega)] at h2 h3 h4
  have ho := h1.over h2 hlt
  unfold Lexed
  rw [Nat.max_eq_right ho]
  exact ⟨hs.2.2.1, h2, h3, h4⟩
theorem first_byte (hp : Edge l pos) (h : pos < l.length) : ∃ b r, l.drop pos = b :: r ∧ (Utf.space ((rune (l.drop pos)).1 : Int) = Utf.space (b.toNat : Int)) ∧ (Utf.space (b.toNat : Int) = true → (rune (l.drop pos)).2 = 1) := by
  have hs := hp.step h
  have hdr : l.drop pos = l[pos] :: l.drop (pos + 1) := List.drop_eq_getElem_cons h
  refine ⟨_, _, hdr, ?_, ?_⟩
  · cases hc : Utf.space ((rune (l.drop pos)).1 : Int)
    · cases hb : Utf.space ((l[pos]).toNat : Int)
      · rfl
      · have hsp := (Utf.space_iff _).1 hb
        have hlow : (l[pos]).toNat < 128 := by omega
        have hn : nth (l.drop pos) 0 < 128 := by rw [hdr]; exact hlow
        have := rune_low hs.1 (j := 0) (by omega) hn
        rw [this] at hc
        have e0 : nth (l.drop pos) 0 = (l[pos]).toNat := by rw [hdr]; rfl
        rw [e0] at hc
        rw [hb] at hc; cases hc
    · have hsp := (Utf.space_iff _).1 hc
      obtain ⟨t, ht, _⟩ := rune_is (c := (rune (l.drop pos)).1) hs.1 rfl (by omega)
      rw [hdr] at ht
      injection ht with ht _
      have e0 : (l[pos]).toNat = (rune (l.drop pos)).1 := by
        rw [ht]
        have : (rune (l.drop pos)).1 < 256 := by omega
        rw [← hdr]
        exact UInt8.toNat_ofNat_of_lt' (by show _ < 256; omega)
      rw [e0]; exact hc.symm
  · intro hb
    have hsp := (Utf.space_iff _).1 hb
    have hn : nth (l.drop pos) 0 < 128 := by rw [hdr]; show (l[pos]).toNat < 128; omega
    have := rune_low hs.1 (j := 0) (by omega) hn
    rw [this]
theorem Lexed.blank (h : Lexed l pos e ts) (hp : pos < l.length) (hlt : ¬ pos < e) (hs : Utf.space ((rune (l.drop pos)).1 : Int) = true) : Lexed l (pos + (rune (l.drop pos)).2) e ts := by
  obtain ⟨h1, h2, h3, h4⟩ := h
  rw [Nat.max_eq_left (by omega)] at h2 h3 h4
  obtain ⟨b, r, hbr, hsb, hk⟩ := first_byte h1 hp
  have hb : Utf.space (b.toNat : Int) = true := by rw [← hsb]; exact hs
  have hk1 := hk hb
  have hst := h1.step hp
  unfold Lexed
  rw [Nat.max_eq_left (by omega)]
  refine ⟨hst.2.2.1, hst.2.2.1, ?_, by omega⟩
  rw [h3, hk1, hbr, lexp_space hb, ← List.drop_drop, hbr]
  rfl
theorem Lexed.token (h : Lexed l pos e ts) (hp : pos < l.length) (hlt : ¬ pos < e) (hs : Utf.space ((rune (l.drop pos)).1 : Int) = false) {k n : Nat} {s : List UInt8} (ho : Fl.one (l.drop pos) = .tok k s n) :
    Lexed l (pos + (rune (l.drop pos)).2) (pos + n) (ts ++ [⟨k, pos, s⟩]) ∧ pos + n ≤ l.length := by
  obtain ⟨h1, h2, h3, h4⟩ := h
  rw [Nat.max_eq_left (by omega)] at h2 h3 h4
  obtain ⟨b, r, hbr, hsb, _⟩ := first_byte h1 hp
  have hb : Utf.space (b.toNat : Int) = false := by rw [← hsb]; exact hs
  have hpo := one_pos ho
  rw [List.length_drop] at hpo
  have hck := one_check h1.2 ho
  have hE := h1.behind (n := n) (by omega) hck
  have hst := h1.step hp
  have hov := h1.over hE (by omega)
  unfold Lexed
  rw [Nat.max_eq_right hov]
  refine ⟨⟨hst.2.2.1, hE, ?_, by rw [List.length_append]; simp; omega⟩, by omega⟩
  rw [hbr] at ho
  rw [h3, hbr, lexp_tok hb ho, join_cons, ← hbr, List.drop_drop]
theorem Lexed.bad (h : Lexed l pos e ts) (hp : pos < l.length) (hlt : ¬ pos < e) (hs : Utf.space ((rune (l.drop pos)).1 : Int) = false) {p x : Nat} (ho : Fl.one (l.drop pos) = .bad p x) :
    lexp 0 l = .error (pos + p, x) := by
  obtain ⟨h1, h2, h3, h4⟩ := h
  rw [Nat.max_eq_left (by omega)] at h2 h3 h4
  obtain ⟨b, r, hbr, hsb, _⟩ := first_byte h1 hp
  have hb : Utf.space (b.toNat : Int) = false := by rw [← hsb]; exact hs
  rw [hbr] at ho
  rw [h3, hbr, lexp_bad hb ho]
  rfl
theorem Lexed.done (h : Lexed l pos e ts) (hp : ¬ pos < l.length) : lexp 0 l = .ok (ts ++ [⟨5, l.length, []⟩]) := by
  obtain ⟨h1, h2, h3, h4⟩ := h
  have e1 : max pos e = l.length := by have := h2.1; omega
  rw [e1, List.drop_length, lexp_nil] at h3
  rw [h3]; rfl
theorem Lexed.many (h : Lexed l pos e ts) : ts.length ≤ l.length := by
  have := h.2.2.2; have := h.2.1.1; omega
end
theorem bad_errs {l : List UInt8} {p x : Nat} (h : Fl.one l = .bad p x) : x = 10 ∨ x = 11 := by
  unfold Fl.one at h
  split at h
  · cases h
  · split at h
    · cases h
    · split at h
      · unfold Fl.quoted at h
        split at h
        · cases h
        · rename_i hne
          injection h with _ h
          have := (str_facts _ (l.drop 1) rfl).2.1
          omega
      · split at h
        · injection h with _ h; omega
        · cases h
theorem bad_place {l : List UInt8} {p x : Nat} (h : Fl.one l = .bad p x) (hl : l ≠ []) : p ≤ l.length := by
  unfold Fl.one at h
  split at h
  · cases h
  · split at h
    · cases h
    · split at h
      · unfold Fl.quoted at h
        split at h
        · cases h
        · injection h with h _
          have := (str_facts _ (l.drop 1) rfl).1
          have := List.length_pos_iff.2 hl
          simp only [List.length_drop] at *
          omega
      · split at h
        · injection h with h _; omega
        · cases h

theorem infoLex : (Tryz.prog.info? 32).map (fun i => (i.zero, i.size, i.bytes)) = some (some (.agg #[.int .i64 0, .int .i64 0, .string ⟨#[]⟩]), 3, 32) := by kernel_rfl
/-- What the tokens of a text are, as the code hands them on. -/
def GotL (B : Nat) (l : List UInt8) (e : Ending) (w : World) : Prop :=
  if check l = l.length then (match lexp 0 l with
    | .ok ts => ∃ v, e = .returned (.tuple #[v, .int .i64 l.length, .int .i64 0]) ∧ OwnL B w v (ts.map lz)
    | .error x => e = .returned (.tuple #[.slice none 0 0, .int .i64 x.1, .int .i64 x.2]))
  else e = .returned (.tuple #[.slice none 0 0, .int .i64 (check l), .int .i64 4])
theorem own_iterAt {B k : Nat} {w : World} {v : Value} {ts : List Lz} (h : OwnL B w v ts) (hk : k < B) (s : ByteArray) (pos : Nat) : OwnL B (w.iterAt k s pos) v ts :=
  World.ownsRow.kept h (row := some k) ⟨rfl, rfl, rfl, by rw [Lib.iterAt_size]; exact Nat.le_refl _, fun j _ hj => Lib.iterAt_other w k j s pos (fun e => hj (by rw [e]))⟩ (.inr (fun e => by have := (h.lt k e).1; omega))

set_option maxHeartbeats 8000000 in
theorem Lex_any (l : List UInt8) (hl : l.length ≤ 100000) (w : World) (hE : Errs w) (hS : Signs w) :
    Calls Tryz.prog 7 #[.string (text l)] w fun e w' => GotL w.heap.size l e w' ∧ Below w.heap.size w w' := by
  obtain ⟨i0, hi, hz0, hz1, hz2⟩ := info_parts infoLex
  have s1 : (text l).size = l.length := text_size l
  obtain ⟨vb, w1, hcv, hvb, hb1, _⟩ := conv_at (P := Tryz.prog) l (by omega) 9 44 5 under9 underB under8 w
  have hck := Check_any vb l w1 (hvb w1 rfl)
  have HCK := hid hck
  have HB1 := hid hb1
  clear hck hvb hb1
  have hgl : ∀ e w', GotL w.heap.size l e w' = if check l = l.length then (match lexp 0 l with
    | .ok ts => ∃ v, e = .returned (.tuple #[v, .int .i64 l.length, .int .i64 0]) ∧ OwnL w.heap.size w' v (ts.map lz)
    | .error x => e = .returned (.tuple #[.slice none 0 0, .int .i64 x.1, .int .i64 x.2]))
  else e = .returned (.tuple #[.slice none 0 0, .int .i64 (check l), .int .i64 4]) := fun _ _ => rfl
  by_cases hc : check l = l.length
  · have he := checkE_ok hc
    rw [he] at HCK
    have hgl2 : ∀ e w', GotL w.heap.size l e w' = _ := fun e w' => (hgl e w').trans (if_pos hc)
    have HG := hid hgl2
    have hst := Lexed.start hc
    have hx : ∀ pos, (text l).extract pos l.length = text (l.drop pos) := fun pos => by have := text_extract l pos; rwa [s1] at this
    have HX := hid hx
    have HT := hid hst
    have HEE := hid hE
    have HSS := hid hS
    have HW := hid (fun pos e ts (h : Lexed l pos e ts) => h.wait)
    have HBl := hid (fun pos e ts (h : Lexed l pos e ts) => h.blank)
    have HTk := hid (fun pos e ts (h : Lexed l pos e ts) => @h.token)
    have HBd := hid (fun pos e ts (h : Lexed l pos e ts) => @h.bad)
    have HD := hid (fun pos e ts (h : Lexed l pos e ts) => h.done)
    have HMn := hid (fun pos e ts (h : Lexed l pos e ts) => h.many)
    have HF := hid (fun pos e ts (h : Lexed l pos e ts) (hp : pos < l.length) => h.1.step hp)
    have HCh := hid (fun pos e ts (h : Lexed l pos e ts) => h.1.2)
    generalize Lexed l = T at *
    clear he hgl hgl2 hst hE hS hx
    go_enter Tryz.func7, Tryz.ntmps7
    go_wp2_with fail
    refine HCK.out.mono ?_
    rintro e w2 ⟨rfl, hb2⟩
    have HB2 := hid (bt HB1.out hb2)
    clear hb2 hcv hc
    go_wp2_with fail
    refine (keywords_is _).mono ?_
    rintro e w3 ⟨mb, rfl, hm, hle, hb3⟩
    have HB3 := hid (bt HB2.out hb3)
    have hz3 : w.heap.size ≤ w3.heap.size := HB3.out.size
    have HM := hid hm
    clear hm hb3
    go_wp2_with fail
    go_loopw [7, 9] (fun tv ev wr => ∃ (pos e : Nat) (ts : List Lx), ev = .int .i64 e ∧ wr.heap[w3.heap.size]? = some (.stringIter (text l) pos) ∧ Hid (T pos e ts) ∧ OwnL (w3.heap.size + 1) wr tv (ts.map lz) ∧ Below w3.heap.size w3 wr ∧ w3.heap.size + 1 ≤ wr.heap.size) (fun _ _ wr => l.length - wr.iterPos w3.heap.size)
    case atStart =>
      exact ⟨0, 0, [], rfl, heap_alloc_new w3 _, HT, OwnL.nil _ _, ba (b0 w3) _, by
        show w3.heap.size + 1 ≤ (w3.alloc (.stringIter (text l) 0)).heap.size
        simp⟩
    case round =>
      rename World => wr
      obtain ⟨pos, e, ts, rfl, hit, HST, hOw, hbr, hzr⟩ := hrel
      have hmn := HMn.out pos e ts HST.out
      by_cases hp : pos < l.length
      · have hps : pos < (text l).size := by rw [s1]; exact hp
        have hnx : ∀ ty, (Instr.next (.pointer (some ⟨w3.heap.size, 0, none⟩)) true ty).run Tryz.prog wr = _ := fun ty => Lib.run_next_any_at wr w3.heap.size (text l) pos ty hit hps
        obtain ⟨hne, hfi, _, hdec⟩ := HF.out pos e ts HST.out hp
        rw [hdec] at hnx
        have hk1 : 1 ≤ (rune (l.drop pos)).2 := by omega
        have hfl : ((rune (l.drop pos)).1 : Int) ≤ 1114111 := by have := (nfine_iff _).1 hfi; omega
        have hnew := Lib.iterAt_heap wr w3.heap.size (text l) pos (pos + (rune (l.drop pos)).2) hit
        have hnb := Lib.below_iterAt hbr (k := w3.heap.size) (by omega) (text l) (pos + (rune (l.drop pos)).2)
        have hno := own_iterAt hOw (k := w3.heap.size) (by omega) (text l) (pos + (rune (l.drop pos)).2)
        have hnz := Lib.iterAt_size wr w3.heap.size (text l) (pos + (rune (l.drop pos)).2)
        have hmeas := iter_is hit
        have hdl : (l.drop pos).length = l.length - pos := List.length_drop
        have hfr := fun w hm hE hS => front_any (l.drop pos) (by omega) (HCh.out pos e ts HST.out) (fun x => by rw [x] at hdl; simp at hdl; omega) _ rfl mb w hm hE hS
        have hsp := fun w => Space_any ((rune (l.drop pos)).1 : Int) w
        have W1 := hid (HW.out pos e ts HST.out hp)
        have B1 := hid (HBl.out pos e ts HST.out hp)
        have T1 := hid (@(HTk.out pos e ts HST.out hp))
        have D1 := hid (@(HBd.out pos e ts HST.out hp))
        have X1 := HX.out pos
        have HN := hid hnew
        have HNB := hid hnb
        have HNO := hid hno
        have HMe := hid hmeas
        have HFR := hid hfr
        have hml : (l.drop pos) ≠ [] := fun x => by rw [x] at hdl; simp at hdl; omega
        have HML := hid hml
        clear hit hOw hbr hnew hnb hno hmeas hps hne hfi hdec hfr hml
        generalize l.drop pos = m at *
        generalize rune m = q at *
        obtain ⟨c, k⟩ := q
        dsimp only at hnx hk1 hfl HN HNB HNO hnz W1 B1 T1 D1 HFR hsp
        generalize wr.iterAt w3.heap.size (text l) (pos + k) = w4 at *
        have hz4 : w3.heap.size + 1 ≤ w4.heap.size := by omega
        by_cases hlt : pos < e
        · have R := hid (W1.out hlt)
          go_wp2_with fail
          go_roundw
          case rel => exact ⟨pos + k, e, ts, rfl, HN.out, R, HNO.out, HNB.out, hz4⟩
          case measure => rw [HMe.out, iter_is HN.out]; omega
        · cases hs : Utf.space (c : Int)
          · rw [hs] at hsp
            have HSP := hid hsp
            have hb4 := HB3.out.trans (HNB.out.mono hz3)
            have HF4 := hid (HFR.out w4 (HM.out.below HNB.out) (HEE.out.below hb4 (Nat.le_refl _)) (HSS.out.below hb4 (Nat.le_refl _)))
            clear hsp hb4
            cases ho : Fl.one m with
            | bad p x =>
              have R := hid (D1.out hlt hs ho)
              have hx := bad_errs ho
              have hpp := bad_place ho HML.out
              have zx : ((x : Int) == 0) = false := by rw [beq_eq_false_iff_ne]; omega
              rw [ho] at HF4
              unfold frontV lexV at HF4
              clear ho hs hx
              go_wp2_with fail
              refine (HSP.out _).mono ?_
              rintro ee w5 ⟨rfl, rfl⟩
              go_wp2_with fail
              refine HF4.out.mono ?_
              rintro ee w6 ⟨rfl, hb6⟩
              have hz6 := hb6.size
              go_wp2
              go_ret3
              refine ⟨?_, HB3.out.trans (((HNB.out.trans (hb6.mono (by omega))).alloc (by omega) _).mono hz3)⟩
              rw [HG.out, R.out]
              show Ending.returned _ = Ending.returned (.tuple #[.slice none 0 0, .int .i64 ((pos + p : Nat) : Int), .int .i64 x])
              rw [show ((pos + p : Nat) : Int) = (pos : Int) + p from by omega]
              rfl
            | tok kk s n =>
              obtain ⟨hT2, hpn⟩ := T1.out hlt hs ho
              have R := hid hT2
              rw [ho] at HF4
              unfold frontV lexV at HF4
              clear ho hs hT2
              go_wp2_with fail
              refine (HSP.out _).mono ?_
              rintro ee w5 ⟨rfl, rfl⟩
              go_wp2_with fail
              refine HF4.out.mono ?_
              rintro ee w6 ⟨rfl, hb6⟩
              have HB6 := hid hb6
              have HO6 := hid (HNO.out.later hb6)
              have hz6 := hb6.size
              have HI6 := hid ((hb6.block w3.heap.size (by omega)).trans HN.out)
              clear hb6
              have ho7 : ((w6.alloc (.cells #[.int .i64 kk, .int .i64 pos, .string (text s)] 32)).alloc (.cells #[.int .i64 kk, .int .i64 pos, .string (text s)] 32)).ownsRow (w3.heap.size + 1) 32 3 u7 (ts.map lz).length ((ts.map lz).flatMap lzCells) := HO6.out.later (ba (ba (b0 w6) _) _)
              have hrow := Row.ofBuild (sz := 3) (w6.alloc (.cells #[.int .i64 kk, .int .i64 pos, .string (text s)] 32)) #[.int .i64 kk, .int .i64 pos, .string (text s)] 32 1 rfl (by omega)
              rw [show (w6.alloc (.cells #[.int .i64 kk, .int .i64 pos, .string (text s)] 32)).heap.size = w6.heap.size + 1 from by simp] at hrow
              have HRow := hid hrow
              have HO7 := hid ho7
              clear ho7 hrow
              go_wp2_with (at_builtin; refine wpList_append_row rfl _ _ 23 rfl (w3.heap.size + 1) 32 i0 _ 3 32 undLs hi hz0 hz1 hz2 rfl (by decide) _ _ _ rfl HO7.out _ 1 [.int .i64 kk, .int .i64 pos, .string (text s)] rfl HRow.out ?d0 ?d1 ?d2 ?d3 ?_)
              case d0 => intro u hu; simp only [List.mem_cons, List.mem_nil_iff, or_false] at hu; rcases hu with rfl | rfl | rfl <;> rfl
              case d1 => simp only [List.length_map]; omega
              case d2 => simp only [List.length_map]; unfold maxLen; omega
              case d3 => simp; omega
              intro v7 w7 hown7 hg7
              have hb7 : Below w3.heap.size w3 w7 := ((((HNB.out.trans (HB6.out.mono (by omega))).alloc (by omega) _).alloc (by simp; omega) _)).grown hg7 (by simp; omega) (fun k hk => by have := (HO7.out.lt k hk).1; omega)
              have hi7 : w7.heap[w3.heap.size]? = some (.stringIter (text l) (pos + k)) := (hg7.block w3.heap.size (by simp; omega) (fun e => by have := (HO7.out.lt _ e.symm).1; omega)).trans ((Below.heap_alloc _ _ _ (by simp; omega)).trans ((Below.heap_alloc _ _ _ (by omega)).trans HI6.out))
              have HO8 := hid (OwnL.snoc (l := ts.map lz) (t := lz ⟨kk, pos, s⟩) (by rw [List.length_map]; exact hown7))
              have HB7 := hid hb7
              have HI7 := hid hi7
              have hz7 : w3.heap.size + 1 ≤ w7.heap.size := by have := hg7.size; simp at this; omega
              clear hown7 hg7 hb7 hi7
              go_wp2_with fail
              go_roundw
              case rel => exact ⟨pos + k, pos + n, ts ++ [⟨kk, pos, s⟩], by go_num, HI7.out, R, by rw [List.map_append]; exact HO8.out, HB7.out, hz7⟩
              case measure => rw [HMe.out, iter_is HI7.out]; omega
          · rw [hs] at hsp
            have HSP := hid hsp
            have R := hid (B1.out hlt hs)
            clear hsp hs
            go_wp2_with fail
            refine (HSP.out _).mono ?_
            rintro ee w5 ⟨rfl, rfl⟩
            go_wp2_with fail
            go_roundw
            case rel => exact ⟨pos + k, e, ts, rfl, HN.out, R, HNO.out, HNB.out, hz4⟩
            case measure => rw [HMe.out, iter_is HN.out]; omega
      · have hps : ¬ pos < (text l).size := by rw [s1]; exact hp
        have hnx : ∀ ty, (Instr.next (.pointer (some ⟨w3.heap.size, 0, none⟩)) true ty).run Tryz.prog wr = _ := fun ty => Lib.run_next_end_at wr w3.heap.size (text l) pos ty hit hps
        have R := hid (HD.out pos e ts HST.out hp)
        have HBR := hid hbr
        have ho7 : (wr.alloc (.cells #[.int .i64 5, .int .i64 l.length, .string ⟨#[]⟩] 32)).ownsRow (w3.heap.size + 1) 32 3 u7 (ts.map lz).length ((ts.map lz).flatMap lzCells) := hOw.later (ba (b0 wr) _)
        have HRow := hid (Row.ofBuild (sz := 3) wr #[.int .i64 5, .int .i64 l.length, .string ⟨#[]⟩] 32 1 rfl (by omega))
        have HO7 := hid ho7
        clear hit hbr hps hOw ho7
        go_wp2_with (at_builtin; refine wpList_append_row rfl _ _ 23 rfl (w3.heap.size + 1) 32 i0 _ 3 32 undLs hi hz0 hz1 hz2 rfl (by decide) _ _ _ rfl HO7.out _ 1 [.int .i64 5, .int .i64 l.length, .string ⟨#[]⟩] rfl HRow.out ?e0 ?e1 ?e2 ?e3 ?_)
        case e0 => first | exact ⟨rfl, rfl, rfl⟩ | (intro u hu; simp only [List.mem_cons, List.mem_nil_iff, or_false] at hu; rcases hu with rfl | rfl | rfl <;> rfl)
        case e1 => first | omega | (simp only [List.length_map]; omega)
        case e2 => first | (unfold maxLen; omega) | (simp only [List.length_map]; unfold maxLen; omega)
        case e3 => first | omega | (simp; omega)
        intro v7 w7 hown7 hg7
        have hb7 : Below w3.heap.size w3 w7 := (HBR.out.alloc (by omega) _).grown hg7 (by simp; omega) (fun k hk => by have := (HO7.out.lt k hk).1; omega)
        have HO8 := hid (OwnL.snoc (l := ts.map lz) (t := lz ⟨5, l.length, []⟩) (by rw [List.length_map]; exact hown7))
        have HB7 := hid hb7
        clear hown7 hg7 hb7
        go_wp2
        go_ret3
        refine ⟨?_, HB3.out.trans (HB7.out.mono hz3)⟩
        rw [HG.out, R.out]
        refine ⟨v7, rfl, ?_⟩
        rw [List.map_append]
        exact HO8.out.base (by omega)
  · have he := checkE_no hc
    rw [he] at HCK
    have hgl2 : ∀ e w', GotL w.heap.size l e w' = _ := fun e w' => (hgl e w').trans (if_neg hc)
    have HG := hid hgl2
    clear he hgl hgl2 hc hE hS
    generalize check l = n at *
    go_enter Tryz.func7, Tryz.ntmps7
    go_wp2_with fail
    refine HCK.out.mono ?_
    rintro e w2 ⟨rfl, hb2⟩
    go_wp2
    go_ret3
    exact ⟨by rw [HG.out]; rfl, bt HB1.out hb2⟩
end Go.Proofs.YtblpckeimdmpaaaGreatDoor.Fx
namespace Go.Proofs.YtblpckeimdmpaaaGreatDoor.Fx
open Go Go.Proofs.YtblpckeimdmpaaaGreatDoor Go.Proofs.YtblpckeimdmpaaaGreatDoor.Utf Go.Proofs.YtblpckeimdmpaaaGreatDoor.Names Go.Proofs.YtblpckeimdmpaaaGreatDoor.Ent Go.Proofs.YtblpckeimdmpaaaGreatDoor.Fl Go.RowKit
set_option maxRecDepth 100000

/-- What the statements ask of the world. -/
def Fit (w : World) : Prop := Errs w ∧ Signs w
theorem Fit.below {w w' : World} (h : Fit w) {B : Nat} (hb : Below B w w') (hB : w.heap.size ≤ B) : Fit w' := ⟨h.1.below hb hB, h.2.below hb hB⟩

theorem GotL.ok {B : Nat} {l : List UInt8} {e : Ending} {w : World} (h : GotL B l e w) (hc : check l = l.length) {ts : List Lx} (hl : lexp 0 l = .ok ts) : ∃ v, e = .returned (.tuple #[v, .int .i64 l.length, .int .i64 0]) ∧ OwnL B w v (ts.map lz) := by
  unfold GotL at h
  rw [if_pos hc, hl] at h
  exact h
theorem GotL.bad {B : Nat} {l : List UInt8} {e : Ending} {w : World} (h : GotL B l e w) (hc : check l = l.length) {x : Nat × Nat} (hl : lexp 0 l = .error x) : e = .returned (.tuple #[.slice none 0 0, .int .i64 x.1, .int .i64 x.2]) := by
  unfold GotL at h
  rw [if_pos hc, hl] at h
  exact h
theorem GotL.utf {B : Nat} {l : List UInt8} {e : Ending} {w : World} (h : GotL B l e w) (hc : check l ≠ l.length) : e = .returned (.tuple #[.slice none 0 0, .int .i64 (check l), .int .i64 4]) := by
  unfold GotL at h
  rw [if_neg hc] at h
  exact h

def want1 : List Lx := [⟨0, 0, [110, 101, 116]⟩, ⟨0, 4, [112, 114, 105, 99, 101]⟩, ⟨4, 9, [42]⟩, ⟨2, 10, [49, 46, 53]⟩, ⟨5, 13, []⟩]
def want2 : List Lx := [⟨4, 0, [91]⟩, ⟨2, 1, [49]⟩, ⟨4, 2, [46, 46]⟩, ⟨2, 4, [53]⟩, ⟨4, 5, [93]⟩, ⟨5, 6, []⟩]
theorem lex_1 (w : World) (hF : Fit w) : Calls Tryz.prog 7 #[.string ⟨#[110, 101, 116, 32, 112, 114, 105, 99, 101, 42, 49, 46, 53]⟩] w fun e w' => (∃ v, e = .returned (.tuple #[v, .int .i64 13, .int .i64 0]) ∧ OwnL w.heap.size w' v (want1.map lz)) ∧ Below w.heap.size w w' := by
  refine (Lex_any [110, 101, 116, 32, 112, 114, 105, 99, 101, 42, 49, 46, 53] (by decide) w hF.1 hF.2).mono ?_
  rintro e w' ⟨h, hb⟩
  exact ⟨h.ok (by kernel_rfl) (by kernel_rfl), hb⟩
theorem lex_2 (w : World) (hF : Fit w) : Calls Tryz.prog 7 #[.string ⟨#[91, 49, 46, 46, 53, 93]⟩] w fun e w' => (∃ v, e = .returned (.tuple #[v, .int .i64 6, .int .i64 0]) ∧ OwnL w.heap.size w' v (want2.map lz)) ∧ Below w.heap.size w w' := by
  refine (Lex_any [91, 49, 46, 46, 53, 93] (by decide) w hF.1 hF.2).mono ?_
  rintro e w' ⟨h, hb⟩
  exact ⟨h.ok (by kernel_rfl) (by kernel_rfl), hb⟩
theorem lex_3 (w : World) (hF : Fit w) : Calls Tryz.prog 7 #[.string ⟨#[34, 97]⟩] w fun e w' => e = .returned (.tuple #[.slice none 0 0, .int .i64 2, .int .i64 10]) ∧ Below w.heap.size w w' := by
  refine (Lex_any [34, 97] (by decide) w hF.1 hF.2).mono ?_
  rintro e w' ⟨h, hb⟩
  exact ⟨h.bad (x := (2, 10)) (by kernel_rfl) (by kernel_rfl), hb⟩
theorem lex_4 (w : World) (hF : Fit w) : Calls Tryz.prog 7 #[.string ⟨#[97, 32, 63, 32, 98]⟩] w fun e w' => e = .returned (.tuple #[.slice none 0 0, .int .i64 2, .int .i64 11]) ∧ Below w.heap.size w w' := by
  refine (Lex_any [97, 32, 63, 32, 98] (by decide) w hF.1 hF.2).mono ?_
  rintro e w' ⟨h, hb⟩
  exact ⟨h.bad (x := (2, 11)) (by kernel_rfl) (by kernel_rfl), hb⟩

/-- One of them, its number written out. -/
theorem Lexs.pick {w : World} {v : Value} {l : List Lz} (h : Lexs w v l) (i : Nat) (n : Int) (hn : (i : Int) = n) (t : Lz) (ht : l[i]? = some t) :
    ∃ b o, (∀ k W, (Instr.indexAt 23 v (.int k n)).run Tryz.prog W = .ok (.pointer (some ⟨b, o, none⟩)) W) ∧
      w.cell? ⟨b, o, none⟩ = some (.int .i64 t.kind) ∧ w.cell? ⟨b, o + 1, none⟩ = some (.int .i64 t.place) ∧ w.cell? ⟨b, o + 2, none⟩ = some (.string (text t.s)) := by
  subst hn
  obtain ⟨hi, rfl⟩ := List.getElem?_eq_some_iff.1 ht
  exact h.at (P := Tryz.prog) i hi 23 32 undLs sizL
def wantC : Array Value := #[.int .i64 0, .int .i64 0, .string ⟨#[110, 101, 116]⟩, .int .i64 0, .int .i64 0, .string ⟨#[112, 114, 105, 99, 101]⟩, .int .i64 4, .int .i64 0, .string ⟨#[42]⟩, .int .i64 2, .int .i64 0, .string ⟨#[49, 46, 53]⟩, .int .i64 5, .int .i64 0, .string ⟨#[]⟩]
def wantZ : List Lz := [⟨0, 0, [110, 101, 116]⟩, ⟨0, 0, [112, 114, 105, 99, 101]⟩, ⟨4, 0, [42]⟩, ⟨2, 0, [49, 46, 53]⟩, ⟨5, 0, []⟩]
theorem want_same : sameL false (want1.map lz) wantZ = true := sameL_yes rfl

set_option maxHeartbeats 4000000 in
theorem alive_any (w : World) (hF : Fit w) : Calls Tryz.prog 6 #[] w fun e w' => e = .returned (.bool true) ∧ Below w.heap.size w w' := by
  have HF := hid hF
  clear hF
  go_enter Tryz.func6, Tryz.ntmps6
  go_wp2_with fail
  refine (lex_1 _ HF.out).mono ?_
  rintro e w1 ⟨⟨v1, rfl, ho1⟩, hb1⟩
  have HF1 := hid (HF.out.below hb1 (Nat.le_refl _))
  go_wp2_with fail
  refine (lex_2 _ HF1.out).mono ?_
  rintro e w2 ⟨⟨v2, rfl, ho2⟩, hb2⟩
  have HF2 := hid (HF1.out.below hb2 (Nat.le_refl _))
  go_wp2_with fail
  refine (lex_3 _ HF2.out).mono ?_
  rintro e w3 ⟨rfl, hb3⟩
  have HF3 := hid (HF2.out.below hb3 (Nat.le_refl _))
  go_wp2_with fail
  refine (lex_4 _ HF3.out).mono ?_
  rintro e w4 ⟨rfl, hb4⟩
  have HB4 := hid (bt (bt (bt hb1 hb2) hb3) hb4)
  have HL1 := hid (((ho1.lexs (by decide)).below (bt (bt hb2 hb3) hb4) (Nat.le_refl _)).below (ba (b0 w4) (.cells wantC 32)) (Nat.le_refl _))
  have HL2 := hid (((ho2.lexs (by decide)).below (bt hb3 hb4) (Nat.le_refl _)).below (ba (b0 w4) (.cells wantC 32)) (Nat.le_refl _))
  have HW : Hid (Lexs (w4.alloc (.cells wantC 32)) (.slice (some ⟨w4.heap.size, 0, none⟩) 5 5) wantZ) := hid (Row.ofBuild (sz := 3) w4 wantC 32 5 rfl (by omega))
  have hsm := Same_any false _ _ _ _ _ HL1.out HW.out
  rw [want_same] at hsm
  have HSM := hid hsm
  have hlen2 := fun W => HL2.out.len (P := Tryz.prog) 23 3 32 undLs W
  simp only [List.length_map, show want2.length = 6 from rfl] at hlen2
  clear hsm ho1 ho2 hb1 hb2 hb3 hb4
  unfold wantC at HSM HL2
  go_wp2_with fail
  refine HSM.out.mono ?_
  rintro e w5 ⟨rfl, hb5⟩
  obtain ⟨b2, o2, hi2, k0, k1, k2⟩ := (HL2.out.below hb5 (Nat.le_refl _)).at (P := Tryz.prog) 2 (by decide) 23 32 undLs sizL
  have k2' : w5.cell? ⟨b2, o2 + 2, none⟩ = some (.string ⟨#[46, 46]⟩) := k2
  have hi2' : ∀ k W, (Instr.indexAt 23 v2 (.int k 2)).run Tryz.prog W = .ok (.pointer (some ⟨b2, o2, none⟩)) W := hi2
  have HB5 := hid hb5
  clear hb5 k0 k1 k2 hi2
  go_wp2
  go_ret
  exact ⟨rfl, (HB4.out.trans ((ba (b0 w4) _).mono HB4.out.size)).trans (HB5.out.mono (by have := HB4.out.size; simp; omega))⟩
end Go.Proofs.YtblpckeimdmpaaaGreatDoor.Fx
