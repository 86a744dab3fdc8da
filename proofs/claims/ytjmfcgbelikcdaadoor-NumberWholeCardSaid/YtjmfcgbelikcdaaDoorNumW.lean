/- Layer 7: the statement's own digits, and the walk of NumberWhole. -/
import Derived.Test.YtjmfcgbelikcdaaDoorNumO
import Derived.Deep.RegionHeld3
set_option linter.unusedVariables false
set_option linter.unusedSimpArgs false
namespace Go.Proofs.YtjmfcgbelikcdaaDoor.Num
open Go Go.Proofs.YtjmfcgbelikcdaaDoor Go.RowKit
set_option maxRecDepth 100000

/-- Some digits of n0 are laid, n is left; g rounds at most are to come. -/
structure Digs (n0 n g : Nat) (z : List UInt8) : Prop where
  all : AllD z
  sum : val z + n * 10 ^ z.length = n0
  few : n < 10 ^ g
  len : z.length + g = 20
  none : z = [] → n = n0 ∧ 0 < g
  done : z ≠ [] → n = 0 → IsC (z, 0)
theorem Digs.start (n0 : Nat) (h : n0 < 18446744073709551616) : Digs n0 n0 20 [] := ⟨.nil, by simp [val], by omega, rfl, fun _ => ⟨rfl, by omega⟩, fun h => absurd rfl h⟩
theorem Digs.gpos {n0 n g : Nat} {z : List UInt8} (h : Digs n0 n g z) (hc : 0 < n ∨ z = []) : 0 < g := by
  rcases hc with c | c
  · rcases Nat.eq_zero_or_pos g with e | e
    · have := h.few; rw [e] at this; simp at this; omega
    · exact e
  · exact (h.none c).2
theorem Digs.next {n0 n g : Nat} {z : List UInt8} (h : Digs n0 n g z) (hc : 0 < n ∨ z = []) : Digs n0 (n / 10) (g - 1) (UInt8.ofNat (48 + n % 10) :: z) := by
  have hd := dig_of' (n % 10) (Nat.mod_lt _ (by omega))
  have hg := h.gpos hc
  obtain ⟨k, rfl⟩ : ∃ k, g = k + 1 := ⟨g - 1, by omega⟩
  have hf := h.few
  have hl := h.len
  have hs := h.sum
  refine ⟨.cons hd.1 h.all, ?_, ?_, by simp; omega, fun e => absurd e (by simp), fun _ h0 => ?_⟩
  · simp only [val, hd.2, Nat.add_sub_cancel_left, List.length_cons, Nat.pow_succ]
    rw [← hs]
    generalize 10 ^ z.length = T
    have key : n % 10 * T + n / 10 * (T * 10) = n * T := by
      have e : n * T = (10 * (n / 10) + n % 10) * T := by rw [Nat.div_add_mod]
      rw [e, Nat.add_mul]
      have : n / 10 * (T * 10) = 10 * (n / 10) * T := by ac_rfl
      omega
    omega
  · rw [Nat.pow_succ] at hf; simp only [Nat.add_sub_cancel]; omega
  · have hn : n % 10 = n := Nat.mod_eq_of_lt (by omega)
    refine ⟨.cons hd.1 h.all, by simp, ?_⟩
    rcases Nat.eq_zero_or_pos n with e | e
    · have hz : z = [] := hc.resolve_left (by omega)
      subst hz
      subst e
      exact .inl ⟨rfl, rfl⟩
    · right
      refine ⟨?_, .inl rfl⟩
      simp only [List.head?_cons]
      intro c
      have c2 := congrArg UInt8.toNat (Option.some.inj c)
      rw [hd.2] at c2
      have : (48 : UInt8).toNat = 48 := rfl
      omega

set_option maxHeartbeats 2000000 in
theorem digits_any (n0 : Nat) (hn : n0 < 18446744073709551616) (w : World) :
    Calls Tryd.prog 21 #[.int .u64 n0] w fun e w' => (∃ z, e = .returned (.string (text z)) ∧ IsC (z, 0) ∧ val z = n0 ∧ z.length ≤ 20) ∧ Below w.heap.size w w' := by
  have HS := hid (Digs.start n0 hn)
  go_enter Tryd.func21, Tryd.ntmps21
  go_wp2_with fail
  go_loopg [0, 3] 20 (fun gk nv sv X => ∃ (n : Nat) (z : List UInt8), nv = .int .u64 n ∧ sv = .string (text z) ∧ n < 18446744073709551616 ∧ z.length ≤ 20 ∧ Hid (Digs n0 n gk z) ∧ Hid (Below w.heap.size w X))
  case atStart => exact ⟨n0, [], rfl, rfl, hn, by simp, HS, hid (b0 _)⟩
  case round =>
    rename World => X
    obtain ⟨n, z, rfl, rfl, hnn, hzl, HD, HX⟩ := hrel
    have zz := text_size z
    by_cases hgo : 0 < n ∨ z = []
    · have hgp := HD.out.gpos hgo
      have hnx := HD.out.next hgo
      obtain ⟨E, hE⟩ : ∃ E, n % 10 = E := ⟨_, rfl⟩
      obtain ⟨F, hF⟩ : ∃ F, n / 10 = F := ⟨_, rfl⟩
      obtain ⟨V, hV⟩ : ∃ V, 48 + E = V := ⟨_, rfl⟩
      have w1' : (n : Int) % 10 = (E : Int) := by omega
      have w2' : (48 : Int) + (E : Int) = (V : Int) := by omega
      have w3' : (n : Int) / 10 = (F : Int) := by omega
      have hE9 : E ≤ 9 := by omega
      have hV57 : V ≤ 57 := by omega
      have hFn : F ≤ n := by omega
      have w4' : IntKind.u8.wrap (V : Int) = (V : Int) := by rw [IntWalk.u8_in _ (by omega)]
      have w5' : IntKind.u64.wrap (V : Int) = (V : Int) := by rw [IntWalk.u64_in _ (by omega)]
      rw [hE, hF, hV] at hnx
      have HNX := hid hnx
      have hbv : (UInt8.ofNat V).toNat = V := by simp; omega
      have hby : Bytes (X.alloc (.cells #[.int .u8 V] 5)) (.slice (some ⟨X.heap.size, 0, none⟩) 1 1) [UInt8.ofNat V] := by
        have := Row.ofBuild (sz := 1) X #[.int .u8 (V : Int)] 5 1 rfl (by omega)
        unfold Bytes cellsOf
        simpa [hbv] using this
      have hcv := hby.conv (P := Tryd.prog) 63 9 5 Tryd.underlying63 Tryd.underlying5 Tryd.underlying9
      have hadd : text [UInt8.ofNat V] ++ text z = text (UInt8.ofNat V :: z) := text_append _ _
      have z1 : (text [UInt8.ofNat V]).size = 1 := rfl
      have hZl : (UInt8.ofNat V :: z).length = z.length + 1 := rfl
      have hlen := HD.out.len
      clear hnx hE hF hV hbv hby
      generalize UInt8.ofNat V :: z = Z at *
      generalize text [UInt8.ofNat V] = V1 at *
      by_cases h0 : 0 < n
      · have h0' : (0 : Int) < (n : Int) := by omega
        clear hgo
        go_wp2
        go_roundg (gk - 1)
        case rel => exact ⟨F, Z, rfl, rfl, by omega, by omega, HNX, hid (ba HX.out _)⟩
        case measure => omega
      · have hz0 : z = [] := hgo.resolve_left h0
        have q0 := list_yes hz0
        have h0' : ¬ (0 : Int) < (n : Int) := by omega
        clear hgo hz0
        go_wp2
        go_roundg (gk - 1)
        case rel => exact ⟨F, Z, rfl, rfl, by omega, by omega, HNX, hid (ba HX.out _)⟩
        case measure => omega
    · have hn0 : n = 0 := by omega
      have hz0 : z ≠ [] := fun e => hgo (.inr e)
      have q0 := list_no hz0
      have HI := hid (HD.out.done hz0 hn0)
      have HV := hid (show val z = n0 by have := HD.out.sum; rw [hn0] at this; simpa using this)
      subst hn0
      clear hgo hz0
      go_wp2
      go_ret
      exact ⟨⟨z, rfl, HI.out, HV.out, hzl⟩, HX.out⟩

/-- A tenth of a number is less, unless it is 0. -/
theorem tenth (K : Nat) (a : Nat) : cmpN (a * 10 ^ K) (a * 10 ^ (K + 1)) = if 0 < a then -1 else 0 := by
  have hp : 0 < 10 ^ K := Nat.pow_pos (by omega)
  rw [Nat.pow_succ]
  generalize 10 ^ K = T at *
  unfold cmpN
  by_cases h : 0 < a
  · have h1 : a * T < a * (T * 10) := Nat.mul_lt_mul_of_pos_left (by omega) h
    rw [if_pos h1, if_pos h]
  · have : a = 0 := by omega
    subst this
    simp
theorem cmp_tenth (z : List UInt8) : cmpN (N (z, 1)) (N (z, 0)) = if 0 < val z then -1 else 0 := by
  rw [N_def, N_def]
  obtain ⟨K, hK⟩ : ∃ K, K = 1000 - 1 := ⟨_, rfl⟩
  rw [show 1000 - 0 = K + 1 from by omega, ← hK]
  exact tenth K (val z)
theorem cmp_pow (a b K : Nat) : cmpN (a * 10 ^ K) (b * 10 ^ K) = cmpN a b := cmpN_scale (Nat.pow_pos (by omega))
theorem cmp_whole (y z : List UInt8) : cmpN (N (y, 0)) (N (z, 0)) = cmpN (val y) (val z) := by
  rw [N_def, N_def]
  obtain ⟨K, hK⟩ : ∃ K, K = 1000 - 0 := ⟨_, rfl⟩
  rw [← hK]
  exact cmp_pow _ _ K
theorem whole_ok {z : List UInt8} (h : IsC (z, 0)) (hl : z.length ≤ 20) : checkE z 0 = 0 := checkE_of h.1 h.2.1 (by omega) (by omega) (by omega)
theorem add_whole (x y z : List UInt8) (h : val z = val x + val y) : N (z, 0) = N (x, 0) + N (y, 0) := by
  rw [N_def, N_def, N_def]
  obtain ⟨K, hK⟩ : ∃ K, K = 1000 - 0 := ⟨_, rfl⟩
  rw [← hK, h, Nat.add_mul]

theorem cell_later' {X Y : World} {p : Addr} {v : Value} (h : X.cell? p = some v) (hb : Below X.heap.size X Y) : Y.cell? p = some v := (hb.cell (p := p) (World.block_lt_of_cell? X p h)).trans h
/-- Each number has digits. -/
theorem digits_of : ∀ n : Nat, ∃ l : List UInt8, AllD l ∧ l ≠ [] ∧ val l = n := by
  intro n
  induction n using Nat.strongRecOn with
  | _ n ih =>
    have hd := dig_of' (n % 10) (Nat.mod_lt _ (by omega))
    by_cases h : n < 10
    · refine ⟨[UInt8.ofNat (48 + n % 10)], .cons hd.1 .nil, by simp, ?_⟩
      simp only [val, hd.2]
      simp; omega
    · obtain ⟨l, h1, h2, h3⟩ := ih (n / 10) (by omega)
      refine ⟨l ++ [UInt8.ofNat (48 + n % 10)], h1.app (.cons hd.1 .nil), by simp, ?_⟩
      rw [val_snoc, h3, hd.2]
      omega
theorem exists_whole (n : Nat) : ∃ z, IsC (z, 0) ∧ val z = n := by
  obtain ⟨l, h1, h2, h3⟩ := digits_of n
  have hc := canon_len l 0 h2
  have hi := canon_is h1 0
  have hv := canon_val l 0
  obtain ⟨z, s, he⟩ : ∃ z s, canon l 0 = (z, s) := ⟨_, _, rfl⟩
  rw [he] at hc hi hv
  obtain rfl : s = 0 := by have := hc.2.1; simpa using this
  exact ⟨z, hi, by simpa [h3] using hv⟩
end Go.Proofs.YtjmfcgbelikcdaaDoor.Num
