/- Layer 7: contracts of Add, and of the document's Add. -/
import Derived.Test.YtjmfcgbelikcdaaDoorNumL
import Derived.Test.YtjmfcgbelikcdaaDoorNumM
set_option linter.unusedVariables false
set_option linter.unusedSimpArgs false
namespace Go.Proofs.YtjmfcgbelikcdaaDoor.Num
open Go Go.Proofs.YtjmfcgbelikcdaaDoor Go.RowKit
set_option maxRecDepth 100000

/-- What Add answers, if the sum is p. -/
def AddV (b : Nat) (p : List UInt8 × Nat) : Value := .tuple #[numV (addP b p), .int .i64 (addR b p)]

set_option maxHeartbeats 4000000 in
theorem Add_any (d : List UInt8) (s : Int) (e : List UInt8) (t : Int) (hd : d.length ≤ 500000000) (he : e.length ≤ 500000000) (w : World) (hw : Fit w) :
    Calls Tryd.prog 18 #[numZ d s, numZ e t] w fun ev w' => (∃ p, (bothE d s e t = 0 → Summ d s.toNat e t.toNat p) ∧ ev = .returned (AddV (bothE d s e t) p)) ∧ Below w.heap.size w w' := by
  have HC := hid (fun w => add_any d s e t hd he w)
  have HE := hid (fun n X (hb : Below w.heap.size w X) => errnoOf_any n X (hw.at hb).err)
  obtain ⟨W0, hW0, hB0, hN0, hP0, hz0⟩ := boxes2 w d s e t
  obtain ⟨W1, hW1⟩ : ∃ W1, W0.alloc (.cells #[.string ⟨#[]⟩, .int .i64 0] 24) = W1 := ⟨_, rfl⟩
  have B1 := hid (show Below w.heap.size w W1 from hW1 ▸ ba hB0 _)
  have hN1 : W1.heap[w.heap.size]? = some (.cells #[.string (text d), .int .i64 s] 24 (0, 0)) := hW1 ▸ heap_alloc_old hN0
  have hP1 : W1.heap[w.heap.size + 1]? = some (.cells #[.string (text e), .int .i64 t] 24 (0, 0)) := hW1 ▸ heap_alloc_old hP0
  have hR1 : W1.heap[w.heap.size + 2]? = some (.cells #[.string ⟨#[]⟩, .int .i64 0] 24 (0, 0)) := by rw [← hW1, ← hz0]; exact heap_alloc_new W0 _
  have R1 := hid hR1
  have a0 : W1.cell? ⟨w.heap.size, 0, none⟩ = some (.string (text d)) := by rw [Lib.cell_of_heap hN1]; rfl
  have a1 : W1.cell? ⟨w.heap.size, 1, none⟩ = some (.int .i64 s) := by rw [Lib.cell_of_heap hN1]; rfl
  have b0' : W1.cell? ⟨w.heap.size + 1, 0, none⟩ = some (.string (text e)) := by rw [Lib.cell_of_heap hP1]; rfl
  have b1' : W1.cell? ⟨w.heap.size + 1, 1, none⟩ = some (.int .i64 t) := by rw [Lib.cell_of_heap hP1]; rfl
  clear hB0 hN0 hP0 hN1 hP1 hR1 hw
  generalize bothE d s e t = b at *
  unfold numZ at *
  go_enter Tryd.func18, Tryd.ntmps18
  go_wp2_with fail
  refine (HC.out _).mono ?_
  rintro ev w1 ⟨⟨p, hp, rfl⟩, hb1⟩
  have HP := hid hp
  have HA := hid (show AddV b p = .tuple #[numV (addP b p), .int .i64 (addR b p)] from rfl)
  have HB := hid (B1.out.trans (hb1.mono B1.out.size))
  have r1 := block_later R1.out hb1
  unfold addV
  generalize addP b p = v at *
  generalize addR b p = n at *
  obtain ⟨vd, vs⟩ := v
  unfold numV numZ
  unfold numV numZ at HA
  have PY := hid (heap_alloc_old (o' := .cells #[.string (text vd), .int .i64 vs] 24) r1)
  have QY := hid (heap_alloc_new w1 (.cells #[.string (text vd), .int .i64 vs] 24))
  have BY := hid (ba HB.out (.cells #[.string (text vd), .int .i64 vs] 24))
  clear hb1 r1 hp
  go_wp2_with fail
  go_region_with (
    go_at_call 23
    refine (HE.out _ _ BY.out.drew).mono ?_
    rintro ev w2 ⟨rfl, hb2⟩
    have p2 := block_later (show ((w1.alloc (.cells #[.string (text vd), .int .i64 vs] 24)).drew).heap[w.heap.size + 2]? = _ from PY.out) hb2
    have q2 := block_later (show ((w1.alloc (.cells #[.string (text vd), .int .i64 vs] 24)).drew).heap[w1.heap.size]? = _ from QY.out) hb2
    have HP2 := hid p2
    have HB2 := hid (BY.out.drew.trans (hb2.mono BY.out.drew.size))
    have c0 : w2.cell? ⟨w.heap.size + 2, 0, none⟩ = some (.string ⟨#[]⟩) := by rw [Lib.cell_of_heap p2]; rfl
    have c1 : w2.cell? ⟨w.heap.size + 2, 1, none⟩ = some (.int .i64 0) := by rw [Lib.cell_of_heap p2]; rfl
    have f0 := Lib.frozen_of_heap p2 0
    have f1 := Lib.frozen_of_heap p2 1
    have d0 : w2.cell? ⟨w1.heap.size, 0, none⟩ = some (.string (text vd)) := by rw [Lib.cell_of_heap q2]; rfl
    have d1 : w2.cell? ⟨w1.heap.size, 1, none⟩ = some (.int .i64 vs) := by rw [Lib.cell_of_heap q2]; rfl
    clear hb2 p2 q2)
  all_goals go_wp2
  all_goals refine bodyPost_ret (results_pair rfl _ _ _ _ rfl (load_num (put2 HP2.out _ _))) rfl ?_
  all_goals exact ⟨⟨p, HP.out, by rw [HA.out]; rfl⟩, put2_below HB2.out (by omega) _ _⟩

set_option maxHeartbeats 4000000 in
theorem RAdd_any (d : List UInt8) (s : Nat) (e : List UInt8) (t : Nat) (hd : AllD d) (he : AllD e) (hld : d.length ≤ 1000) (hle : e.length ≤ 1000) (hs : s ≤ 1000) (ht : t ≤ 1000) (w : World) :
    Calls Tryd.prog 19 #[numZ d s, numZ e t] w fun ev w' => (∃ p, IsC p ∧ p.2 ≤ 1000 ∧ N p = N (d, s) + N (e, t) ∧ ev = .returned (numV p)) ∧ Below w.heap.size w w' := by
  have mixed : Tryd.prog.follows Departure.mixedOrders = true := by kernel_rfl
  obtain ⟨M, hM⟩ : ∃ M : Nat, M = 2002 := ⟨_, rfl⟩
  have HS : Hid (N (d, s) + N (e, t) < 10 ^ M) := by
    have b1 : N (d, s) < 10 ^ (M - 1) := Nat.lt_of_lt_of_le (N_lt (s := s) hd) (Nat.pow_le_pow_right (by omega) (by omega))
    have b2 : N (e, t) < 10 ^ (M - 1) := Nat.lt_of_lt_of_le (N_lt (s := t) he) (Nat.pow_le_pow_right (by omega) (by omega))
    have : 10 ^ M = 10 ^ (M - 1) * 10 := by rw [← Nat.pow_succ]; congr 1; omega
    rw [this]
    exact hid (by omega)
  have HM := hid hM
  obtain ⟨W0, hW0, hB0, hN0, hP0, hz0⟩ := boxes2 w d s e t
  obtain ⟨W1, hW1⟩ : ∃ W1, W0.alloc (.cells #[.string ⟨#[]⟩, .int .i64 0] 24) = W1 := ⟨_, rfl⟩
  have B1 := hid (show Below w.heap.size w W1 from hW1 ▸ ba hB0 _)
  have N1 := hid (show W1.heap[w.heap.size]? = some (.cells #[.string (text d), .int .i64 s] 24 (0, 0)) from hW1 ▸ heap_alloc_old hN0)
  have P1 := hid (show W1.heap[w.heap.size + 1]? = some (.cells #[.string (text e), .int .i64 t] 24 (0, 0)) from hW1 ▸ heap_alloc_old hP0)
  have R1 := hid (show W1.heap[w.heap.size + 2]? = some (.cells #[.string ⟨#[]⟩, .int .i64 0] 24 (0, 0)) from by rw [← hW1, ← hz0]; exact heap_alloc_new W0 _)
  clear hB0 hN0 hP0 hM
  unfold numZ at *
  go_enter Tryd.func19, Tryd.ntmps19
  go_wp2_with fail
  clear hW1 hW0
  go_loopg [7, 5, 6] M (fun gk pv zv cv X => ∃ (p : Int) (j c : Nat) (z : List UInt8), pv = .int .i64 p ∧ zv = .string (text z) ∧ cv = .int .i64 c ∧ p + 1000 = (j : Int) ∧ j + gk = M ∧ c ≤ 1 ∧ z.length = j ∧ Hid (Laid (N (d, s)) (N (e, t)) j c z) ∧ Hid (X.heap[w.heap.size]? = some (.cells #[.string (text d), .int .i64 s] 24 (0, 0))) ∧ Hid (X.heap[w.heap.size + 1]? = some (.cells #[.string (text e), .int .i64 t] 24 (0, 0))) ∧ Hid (X.heap[w.heap.size + 2]? = some (.cells #[.string ⟨#[]⟩, .int .i64 0] 24 (0, 0))) ∧ Hid (Below w.heap.size w X))
  case atStart => exact ⟨-1000, 0, 0, [], rfl, rfl, rfl, by omega, by omega, by omega, rfl, hid (Laid.start _ _), N1, P1, R1, B1⟩
  case round =>
    rename World => X
    obtain ⟨p, j, c, z, rfl, rfl, rfl, hpj, hjg, hc1, hzl, HLD, HN, HP, HR, HX⟩ := hrel
    have c0 : X.cell? ⟨w.heap.size, 0, none⟩ = some (.string (text d)) := by rw [Lib.cell_of_heap HN.out]; rfl
    have c1 : X.cell? ⟨w.heap.size, 1, none⟩ = some (.int .i64 s) := by rw [Lib.cell_of_heap HN.out]; rfl
    have d0 : X.cell? ⟨w.heap.size + 1, 0, none⟩ = some (.string (text e)) := by rw [Lib.cell_of_heap HP.out]; rfl
    have d1 : X.cell? ⟨w.heap.size + 1, 1, none⟩ = some (.int .i64 t) := by rw [Lib.cell_of_heap HP.out]; rfl
    have hM := HM.out
    by_cases hgo : j < M
    · have hp2 : p ≤ 1001 := by omega
      have AT := hid (fun (d : List UInt8) (s : Nat) (h1 : AllD d) (h2 : d.length ≤ 1000) (h3 : s ≤ 1000) w => at_any d s j h1 (by omega) h3 p (by omega) (by omega) w)
      have ST := hid (fun D (hD : D = N (d, s) / 10 ^ j % 10 + N (e, t) / 10 ^ j % 10 + c) => HLD.out.step hD)
      unfold numZ at AT
      obtain ⟨a, ea⟩ : ∃ a, digN d s j = a := ⟨_, rfl⟩
      obtain ⟨b, eb⟩ : ∃ b, digN e t j = b := ⟨_, rfl⟩
      have la := digN_lt d s j
      have lb := digN_lt e t j
      rw [ea] at la
      rw [eb] at lb
      rw [show N (d, s) / 10 ^ j % 10 = a from ea, show N (e, t) / 10 ^ j % 10 = b from eb] at ST
      obtain ⟨S1, hS1⟩ : ∃ S1, a + b = S1 := ⟨_, rfl⟩
      obtain ⟨D, hD⟩ : ∃ D, S1 + c = D := ⟨_, rfl⟩
      have u1 : IntKind.i64.wrap ((a : Int) + (b : Int)) = (S1 : Int) := by rw [IntWalk.i64_in _ (by omega)]; omega
      have u2 : IntKind.i64.wrap ((S1 : Int) + (c : Int)) = (D : Int) := by rw [IntWalk.i64_in _ (by omega)]; omega
      have hD19 : D ≤ 19 := by omega
      have HST := hid (ST.out D (by omega))
      clear ST hS1 hD la lb hM
      go_wp2_with fail
      go_cut [8] (fun sv wx => sv = .int .i64 D ∧ Hid (Below w.heap.size w wx) ∧ Hid (wx.heap[w.heap.size]? = some (.cells #[.string (text d), .int .i64 s] 24 (0, 0))) ∧ Hid (wx.heap[w.heap.size + 1]? = some (.cells #[.string (text e), .int .i64 t] 24 (0, 0))) ∧ Hid (wx.heap[w.heap.size + 2]? = some (.cells #[.string ⟨#[]⟩, .int .i64 0] 24 (0, 0))))
      case first =>
        go_region_with (
          go_at_call 32
          refine (AT.out _ _ ?_ ?_ ?_ _).mono ?_
          (first | exact hd | exact he)
          (first | exact hld | exact hle)
          (first | exact hs | exact ht)
          rintro ev w2 ⟨rfl, hb2⟩
          (first | rw [ea] | rw [eb])
          first
            | (have HB3 := hid (HB2.out.trans (hb2.mono HB2.out.size))
               have HN3 := hid (block_later HN2.out hb2)
               have HP3 := hid (block_later HP2.out hb2)
               have HR3 := hid (block_later HR2.out hb2)
               clear hb2)
            | (have n2 := block_later (show X.drew.heap[w.heap.size]? = _ from HN.out) hb2
               have p2 := block_later (show X.drew.heap[w.heap.size + 1]? = _ from HP.out) hb2
               have r2 := block_later (show X.drew.heap[w.heap.size + 2]? = _ from HR.out) hb2
               have HB2 := hid (HX.out.drew.trans (hb2.mono HX.out.drew.size))
               have HN2 := hid n2
               have HP2 := hid p2
               have HR2 := hid r2
               have g0 : w2.cell? ⟨w.heap.size + 1, 0, none⟩ = some (.string (text e)) := by rw [Lib.cell_of_heap p2]; rfl
               have g1 : w2.cell? ⟨w.heap.size + 1, 1, none⟩ = some (.int .i64 t) := by rw [Lib.cell_of_heap p2]; rfl
               clear hb2 n2 p2 r2))
        all_goals (try go_wp2_with fail)
        all_goals go_meet
        all_goals exact ⟨rfl, HB3, HN3, HP3, HR3⟩
      case rest =>
        obtain ⟨rfl, HB2, HN2, HP2, HR2⟩ := hcut
        obtain ⟨E, hE⟩ : ∃ E, D % 10 = E := ⟨_, rfl⟩
        obtain ⟨F, hF⟩ : ∃ F, D / 10 = F := ⟨_, rfl⟩
        obtain ⟨V, hV⟩ : ∃ V, 48 + E = V := ⟨_, rfl⟩
        have w1' : (D : Int) % 10 = (E : Int) := by omega
        have w2' : (48 : Int) + (E : Int) = (V : Int) := by omega
        have w3' : (D : Int) / 10 = (F : Int) := by omega
        have w4' : IntKind.u8.wrap (V : Int) = (V : Int) := by rw [IntWalk.u8_in _ (by omega)]
        have hF1 : F ≤ 1 := by omega
        have hV57 : V ≤ 57 := by omega
        have hst := HST.out
        rw [hE, hF, hV] at hst
        have HST2 := hid hst
        have hbv : (UInt8.ofNat V).toNat = V := by simp; omega
        have hby : Bytes (wc.alloc (.cells #[.int .u8 V] 5)) (.slice (some ⟨wc.heap.size, 0, none⟩) 1 1) [UInt8.ofNat V] := by
          have := Row.ofBuild (sz := 1) wc #[.int .u8 (V : Int)] 5 1 rfl (by omega)
          unfold Bytes cellsOf
          simpa [hbv] using this
        have hcv := hby.conv (P := Tryd.prog) 63 9 5 Tryd.underlying63 Tryd.underlying5 Tryd.underlying9
        have hadd : text [UInt8.ofNat V] ++ text z = text (UInt8.ofNat V :: z) := text_append _ _
        have zz := text_size z
        have z1 : (text [UInt8.ofNat V]).size = 1 := rfl
        clear HST hst hE hF hV hbv hby hD19 u1 u2
        generalize UInt8.ofNat V :: z = Z at *
        generalize text [UInt8.ofNat V] = V1 at *
        have HB4 := hid (ba HB2.out (.cells #[.int .u8 V] 5))
        have HN4 := hid (heap_alloc_old (o' := .cells #[.int .u8 V] 5) HN2.out)
        have HP4 := hid (heap_alloc_old (o' := .cells #[.int .u8 V] 5) HP2.out)
        have HR4 := hid (heap_alloc_old (o' := .cells #[.int .u8 V] 5) HR2.out)
        have hZl : Z.length = j + 1 := HST2.out.len
        go_wp2
        go_roundg (gk - 1)
        case rel => exact ⟨p + 1, j + 1, F, Z, by go_num, rfl, rfl, by omega, by omega, hF1, hZl, HST2, HN4, HP4, HR4, HB4⟩
        case measure => omega
    · have hp2 : ¬ p ≤ 1001 := by omega
      have hjM : j = M := by omega
      have hv := HLD.out
      rw [hjM] at hv
      have HV := hid (hv.done HS.out)
      have HZ := hid hv.all
      have hz0' : z ≠ [] := by rintro rfl; simp at hzl; omega
      have HC := hid (fun X => RCanon_any z 1000 (by omega) (by omega) hv.all hz0' X)
      have HI := hid (canon_is hv.all 1000)
      have HK := hid (canon_len z 1000 hz0')
      have HNN := hid (show N (canon z 1000) = N (d, s) + N (e, t) by
        rw [N_canon (Nat.le_refl _) HK.out.2.1, ← HV.out]
        show val z * 10 ^ (1000 - 1000) = val z
        rw [Nat.sub_self, Nat.pow_zero, Nat.mul_one])
      clear hv hz0' hjM hgo hM
      generalize canon z 1000 = q at *
      obtain ⟨qd, qs⟩ := q
      unfold numV numZ at HC
      go_wp2_with fail
      refine (HC.out _).mono ?_
      rintro ev w2 ⟨rfl, hb2⟩
      have r2 := block_later HR.out hb2
      have HB2 := hid (HX.out.trans (hb2.mono HX.out.size))
      have g0 : w2.cell? ⟨w.heap.size + 2, 0, none⟩ = some (.string ⟨#[]⟩) := by rw [Lib.cell_of_heap r2]; rfl
      have g1 : w2.cell? ⟨w.heap.size + 2, 1, none⟩ = some (.int .i64 0) := by rw [Lib.cell_of_heap r2]; rfl
      have q0 := Lib.frozen_of_heap r2 0
      have q1 := Lib.frozen_of_heap r2 1
      have HR2 := hid r2
      clear hb2 r2
      go_wp2
      refine bodyPost_ret (results_one rfl _ _ _ _ rfl (load_num (put2 HR2.out _ _))) rfl ?_
      exact ⟨⟨(qd, qs), HI.out, HK.out.2.1, HNN.out, rfl⟩, put2_below HB2.out (by omega) _ _⟩
end Go.Proofs.YtjmfcgbelikcdaaDoor.Num
