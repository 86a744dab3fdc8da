/- Layer 7: contracts of the document's at, Compare, Add. -/
import Derived.Test.YtjmfcgbelikcdaaDoorNumD
import Derived.Deep.DeepCutAuto
set_option linter.unusedVariables false
set_option linter.unusedSimpArgs false
namespace Go.Proofs.YtjmfcgbelikcdaaDoor.Num
open Go Go.Proofs.YtjmfcgbelikcdaaDoor Go.RowKit
set_option maxRecDepth 100000

/-- The digit at q places above 10 to the power of -1000. -/
def digN (d : List UInt8) (s q : Nat) : Nat := N (d, s) / 10 ^ q % 10
theorem digN_lt (d : List UInt8) (s q : Nat) : digN d s q < 10 := Nat.mod_lt _ (by omega)

set_option maxHeartbeats 1000000 in
theorem at_any (d : List UInt8) (s q : Nat) (hd : AllD d) (hl : d.length ≤ 100000) (hs : s ≤ 1000) (p : Int) (hp : p + 1000 = q) (hq : q ≤ 100000) (w : World) :
    Calls Tryd.prog 32 #[numZ d s, .int .i64 p] w fun e w' => e = .returned (.int .i64 (digN d s q)) ∧ Below w.heap.size w w' := by
  have z1 := text_size d
  have HD := hid (digit_N d s q hs hd)
  by_cases h1 : s + q < 1000
  · have HX := hid (show digN d s q = 0 from HD.out.2.1 h1)
    have hge : ¬ (d.length : Int) - 1 - s - p < 0 := by omega
    have hge2 : (d.length : Int) ≤ (d.length : Int) - 1 - s - p := by omega
    unfold numZ
    clear hd
    go_enter Tryd.func32, Tryd.ntmps32
    go_wp2
    go_ret
    exact ⟨by rw [HX.out]; rfl, ba (b0 _) _⟩
  · by_cases h2 : d.length ≤ s + q - 1000
    · have HX := hid (show digN d s q = 0 from HD.out.2.2 (by omega) h2)
      have hge : (d.length : Int) - 1 - s - p < 0 := by omega
      unfold numZ
      clear hd
      go_enter Tryd.func32, Tryd.ntmps32
      go_wp2
      go_ret
      exact ⟨by rw [HX.out]; rfl, ba (b0 _) _⟩
    · obtain ⟨i, hi⟩ : ∃ i, i + (s + q - 1000) + 1 = d.length := ⟨d.length - 1 - (s + q - 1000), by omega⟩
      have hil : i < d.length := by omega
      have HX := hid (HD.out.1 (by omega) i hil hi)
      have hpz : i < (text d).size := by omega
      have hdi := (isd_iff _).1 (hd _ (List.getElem_mem hil))
      obtain ⟨a, ha⟩ : ∃ a : Nat, ((text d)[i]'hpz).toNat = a := ⟨_, rfl⟩
      have ha2 : (d[i]'hil).toNat = a := ha
      rw [ha2] at HX hdi
      have hix : (d.length : Int) - 1 - s - p = (i : Int) := by omega
      have HQ := hid hix
      unfold numZ
      clear hd ha2
      go_enter Tryd.func32, Tryd.ntmps32
      go_wp2
      go_ret
      refine ⟨?_, ba (b0 _) _⟩
      have hh : digN d s q = a - 48 := HX.out.symm
      rw [hh]
      exact congrArg (fun v => Ending.returned (Value.int .i64 v)) (by omega)

/-- The places above are the same. -/
theorem cmp_step {a b q : Nat} (h : a / 10 ^ (q + 1) = b / 10 ^ (q + 1)) :
    (a / 10 ^ q % 10 < b / 10 ^ q % 10 → cmpN a b = -1) ∧ (b / 10 ^ q % 10 < a / 10 ^ q % 10 → cmpN a b = 1) ∧ (a / 10 ^ q % 10 = b / 10 ^ q % 10 → a / 10 ^ q = b / 10 ^ q) := by
  rw [Nat.pow_succ, ← Nat.div_div_eq_div_mul, ← Nat.div_div_eq_div_mul] at h
  have pa : 0 < 10 ^ q := Nat.pow_pos (by omega)
  have key : ∀ x y : Nat, x / 10 ^ q < y / 10 ^ q → x < y := fun x y hxy => by
    refine Nat.lt_of_not_le fun hle => ?_
    have := Nat.div_le_div_right (c := 10 ^ q) hle
    omega
  have e1 := Nat.div_add_mod (a / 10 ^ q) 10
  have e2 := Nat.div_add_mod (b / 10 ^ q) 10
  refine ⟨fun hlt => ?_, fun hlt => ?_, fun he => by omega⟩
  · have := key a b (by omega)
    unfold cmpN; rw [if_pos this]
  · have := key b a (by omega)
    unfold cmpN; rw [if_neg (by omega), if_pos this]

set_option maxHeartbeats 2000000 in
theorem RCompare_any (d : List UInt8) (s : Nat) (e : List UInt8) (t : Nat) (hd : AllD d) (he : AllD e) (hld : d.length ≤ 1000) (hle : e.length ≤ 1000) (hs : s ≤ 1000) (ht : t ≤ 1000) (w : World) :
    Calls Tryd.prog 20 #[numZ d s, numZ e t] w fun ev w' => ev = .returned (.int .i64 (cmpN (N (d, s)) (N (e, t)))) ∧ Below w.heap.size w w' := by
  have HA := hid (fun (q : Nat) (p : Int) (hp : p + 1000 = (q : Int)) (hq : q ≤ 100000) w => at_any d s q hd (by omega) hs p hp hq w)
  have HE := hid (fun (q : Nat) (p : Int) (hp : p + 1000 = (q : Int)) (hq : q ≤ 100000) w => at_any e t q he (by omega) ht p hp hq w)
  obtain ⟨M, hM⟩ : ∃ M : Nat, M = 2001 := ⟨_, rfl⟩
  have HS : Hid (N (d, s) / 10 ^ M = N (e, t) / 10 ^ M) := by
    have b1 : N (d, s) < 10 ^ M := Nat.lt_of_lt_of_le (N_lt hd) (Nat.pow_le_pow_right (by omega) (by omega))
    have b2 : N (e, t) < 10 ^ M := Nat.lt_of_lt_of_le (N_lt he) (Nat.pow_le_pow_right (by omega) (by omega))
    rw [Nat.div_eq_of_lt b1, Nat.div_eq_of_lt b2]
    exact hid rfl
  have HM := hid hM
  unfold numZ at *
  obtain ⟨W1, hW1⟩ : ∃ W1, (w.alloc (.cells #[.string (text d), .int .i64 s] 24)).alloc (.cells #[.string (text e), .int .i64 t] 24) = W1 := ⟨_, rfl⟩
  have B1 := hid (show Below w.heap.size w W1 from hW1 ▸ ba (ba (b0 w) _) _)
  have N1 := hid (show W1.heap[w.heap.size]? = some (.cells #[.string (text d), .int .i64 s] 24 (0, 0)) from hW1 ▸ heap_alloc_old (heap_alloc_new w _))
  have P1 := hid (show W1.heap[w.heap.size + 1]? = some (.cells #[.string (text e), .int .i64 t] 24 (0, 0)) from by
    rw [← hW1]
    have := heap_alloc_new (w.alloc (.cells #[.string (text d), .int .i64 s] 24)) (.cells #[.string (text e), .int .i64 t] 24)
    simpa using this)
  go_enter Tryd.func20, Tryd.ntmps20
  go_wp2_with fail
  clear hW1
  clear hM
  go_loopg [5] M (fun gk pv X => ∃ (p : Int), pv = .int .i64 p ∧ p + 1001 = (gk : Int) ∧ gk ≤ 2001 ∧ Hid (N (d, s) / 10 ^ gk = N (e, t) / 10 ^ gk) ∧ Hid (X.heap[w.heap.size]? = some (.cells #[.string (text d), .int .i64 s] 24 (0, 0))) ∧ Hid (X.heap[w.heap.size + 1]? = some (.cells #[.string (text e), .int .i64 t] 24 (0, 0))) ∧ Hid (Below w.heap.size w X))
  case atStart => exact ⟨1000, rfl, by have := HM.out; omega, by have := HM.out; omega, HS, N1, P1, B1⟩
  case round =>
    rename World => X
    obtain ⟨p, rfl, hpg, hg, HQ, HN, HP, HX⟩ := hrel
    have c0 : X.cell? ⟨w.heap.size, 0, none⟩ = some (.string (text d)) := by rw [Lib.cell_of_heap HN.out]; rfl
    have c1 : X.cell? ⟨w.heap.size, 1, none⟩ = some (.int .i64 s) := by rw [Lib.cell_of_heap HN.out]; rfl
    rcases Nat.eq_zero_or_pos gk with hz | hz
    · subst hz
      have HZ := hid (show N (d, s) = N (e, t) by have := HQ.out; simpa using this)
      have hp2 : ¬ (-1000 : Int) ≤ p := by omega
      go_wp2
      go_ret
      exact ⟨by rw [HZ.out]; simp [cmpN], HX.out⟩
    · obtain ⟨q, rfl⟩ : ∃ q, gk = q + 1 := ⟨gk - 1, by omega⟩
      have HC := hid (cmp_step HQ.out)
      have hp2 : (-1000 : Int) ≤ p := by omega
      have HA1 := hid (HA.out q p (by omega) (by omega))
      have HE1 := hid (HE.out q p (by omega) (by omega))
      unfold digN at HA1 HE1
      have la : N (d, s) / 10 ^ q % 10 < 10 := Nat.mod_lt _ (by omega)
      have le : N (e, t) / 10 ^ q % 10 < 10 := Nat.mod_lt _ (by omega)
      generalize N (d, s) / 10 ^ q % 10 = a at *
      generalize N (e, t) / 10 ^ q % 10 = b at *
      go_wp2_with fail
      refine (HA1.out _).mono ?_
      rintro ev w2 ⟨rfl, hb2⟩
      have n2 := block_later HN.out hb2
      have p2 := block_later HP.out hb2
      have HB2 := hid (HX.out.trans (hb2.mono HX.out.size))
      have e0 : w2.cell? ⟨w.heap.size + 1, 0, none⟩ = some (.string (text e)) := by rw [Lib.cell_of_heap p2]; rfl
      have e1 : w2.cell? ⟨w.heap.size + 1, 1, none⟩ = some (.int .i64 t) := by rw [Lib.cell_of_heap p2]; rfl
      have HN2 := hid n2
      have HP2 := hid p2
      clear hb2 n2 p2
      go_wp2_with fail
      refine (HE1.out _).mono ?_
      rintro ev w3 ⟨rfl, hb3⟩
      have HN3 := hid (block_later HN2.out hb3)
      have HP3 := hid (block_later HP2.out hb3)
      have HB3 := hid (HB2.out.trans (hb3.mono HB2.out.size))
      clear hb3
      rcases Nat.lt_trichotomy a b with c | c | c
      · have HR := hid (HC.out.1 c)
        go_wp2
        go_ret
        exact ⟨by rw [HR.out]; rfl, HB3.out⟩
      · have HR := hid (HC.out.2.2 c)
        have hn1 : ¬ (a : Int) < (b : Int) := by omega
        have hn2 : ¬ (b : Int) < (a : Int) := by omega
        clear c
        go_wp2
        go_roundg q
        case rel => exact ⟨p - 1, by go_num, by omega, by omega, HR, HN3, HP3, HB3⟩
        case measure => omega
      · have HR := hid (HC.out.2.1 c)
        have hn1 : ¬ (a : Int) < (b : Int) := by omega
        go_wp2
        go_ret
        exact ⟨by rw [HR.out]; rfl, HB3.out⟩

/-- The last j digits of the sum are laid. -/
structure Laid (a b j c : Nat) (z : List UInt8) : Prop where
  len : z.length = j
  all : AllD z
  carry : c ≤ 1
  sum : val z + c * 10 ^ j = a % 10 ^ j + b % 10 ^ j
theorem mod_next (a j : Nat) : a % 10 ^ (j + 1) = a % 10 ^ j + (a / 10 ^ j % 10) * 10 ^ j := by
  rw [Nat.pow_succ, Nat.mod_mul]
  rw [Nat.mul_comm (10 ^ j) (a / 10 ^ j % 10)]
theorem dig_of' (k : Nat) (h : k < 10) : isd (UInt8.ofNat (48 + k)) = true ∧ (UInt8.ofNat (48 + k)).toNat = 48 + k := by
  have e : (UInt8.ofNat (48 + k)).toNat = 48 + k := by simp; omega
  exact ⟨(isd_iff _).2 (by omega), e⟩
theorem Laid.start (a b : Nat) : Laid a b 0 0 [] := ⟨rfl, .nil, by omega, by simp [val, Nat.mod_one]⟩
theorem Laid.step {a b j c D : Nat} {z : List UInt8} (h : Laid a b j c z) (hD : D = a / 10 ^ j % 10 + b / 10 ^ j % 10 + c) :
    Laid a b (j + 1) (D / 10) (UInt8.ofNat (48 + D % 10) :: z) := by
  have hd := dig_of' (D % 10) (Nat.mod_lt _ (by omega))
  have hc := h.carry
  have ha : a / 10 ^ j % 10 < 10 := Nat.mod_lt _ (by omega)
  have hb : b / 10 ^ j % 10 < 10 := Nat.mod_lt _ (by omega)
  refine ⟨by simp [h.len], .cons hd.1 h.all, by omega, ?_⟩
  have hs := h.sum
  rw [mod_next a j, mod_next b j]
  simp only [val, hd.2, h.len, Nat.add_sub_cancel_left]
  rw [Nat.pow_succ]
  generalize a / 10 ^ j % 10 = p at *
  generalize b / 10 ^ j % 10 = q at *
  generalize a % 10 ^ j = A at *
  generalize b % 10 ^ j = B at *
  generalize 10 ^ j = T at *
  have key : D % 10 * T + D / 10 * (T * 10) = (p + q + c) * T := by
    rw [show p + q + c = 10 * (D / 10) + D % 10 by have := Nat.div_add_mod D 10; omega, Nat.add_mul]
    have : D / 10 * (T * 10) = 10 * (D / 10) * T := by ac_rfl
    omega
  have key2 : (p + q + c) * T = p * T + q * T + c * T := by rw [Nat.add_mul, Nat.add_mul]
  omega
theorem Laid.done {a b j c : Nat} {z : List UInt8} (h : Laid a b j c z) (ha : a + b < 10 ^ j) : val z = a + b := by
  have hs := h.sum
  rw [Nat.mod_eq_of_lt (by omega), Nat.mod_eq_of_lt (by omega)] at hs
  rcases Nat.eq_zero_or_pos c with rfl | hc
  · simpa using hs
  · have : 1 * 10 ^ j ≤ c * 10 ^ j := Nat.mul_le_mul_right _ hc
    omega
end Go.Proofs.YtjmfcgbelikcdaaDoor.Num
