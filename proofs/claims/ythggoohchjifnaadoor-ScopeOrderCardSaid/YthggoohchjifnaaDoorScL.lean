/- Layer 9: contracts of within and With at any scope. -/
import Derived.Test.YthggoohchjifnaaDoorScK
set_option linter.unusedVariables false
set_option linter.unusedSimpArgs false
namespace Go.Proofs.YthggoohchjifnaaDoor.Sc
open Go Go.Proofs.YthggoohchjifnaaDoor Go.Proofs.YthggoohchjifnaaDoor.Utf Go.Proofs.YthggoohchjifnaaDoor.Names Go.RowKit
set_option maxRecDepth 100000

/-- One level taken in: its names and those that came, rising. -/
theorem take_in (a0 : Option Addr) (n0 c0 : Nat) (l : List (List UInt8)) (a1 : Option Addr) (n1 c1 : Nat) (cur : List (List UInt8)) (X1 X2 : World) (b : Nat) (hb : b < X1.heap.size) (hc : X1.cell? ⟨b, 0, none⟩ = some (.slice a0 n0 c0)) (h0 : Strs X1 (.slice a0 n0 c0) l) (h1 : Strs X1 (.slice a1 n1 c1) cur)
    (h2 : X2 = (X1.alloc (.cells #[.func (.func 66) #[] #[.pointer (some ⟨b, 0, none⟩)]] 54)).alloc (.cells #[.slice a1 n1 c1] 22)) (hl : l.length + cur.length ≤ 1000000) :
    Calls Tryd.prog 39 #[.func (.func 65) #[] #[.pointer (some ⟨X1.heap.size + 1, 0, none⟩), .pointer (some ⟨X1.heap.size, 0, none⟩)]] X2 fun e w' => ∃ v, e = .returned v ∧ OwnS X2.heap.size w' v (mrg l cur) ∧ Below X2.heap.size X2 w' := by
  have hz : X2.heap.size = X1.heap.size + 2 := by rw [h2]; simp
  have t1 := values_tells (· < X1.heap.size) b (.slice a0 n0 c0) l X1 hb hc (StrsD.lt (D := fun _ => True) h0)
  have t2 := both_made h2 (fun b hb => hb) (enters_of Tryd.func66 (by kernel_rfl) rfl) t1 (StrsD.lt (D := fun _ => True) h1)
  refine Collect_any _ _ _ _ _ X2 (fun b hb => ?_) (enters_of Tryd.func65 (by kernel_rfl) rfl) t2 (by rw [(mrg_perm l cur).length_eq, List.length_append]; exact hl)
  rcases hb with hb | hb | hb
  · have : b < X1.heap.size := hb
    omega
  · omega
  · omega

set_option maxHeartbeats 4000000 in
theorem within_any (p : Option Addr) (ls : List (List (List UInt8))) (v : Value) (own : List (List UInt8)) (w : World) (hs : IsSc (· < w.heap.size) w p ls) (hr : ∀ l ∈ ls, Rise l) (hnd : (ls.flatten ++ own).Nodup) (hfew : (ls.flatten ++ own).length ≤ 4096) (ho : Rise own) (hv : Strs w v own) : WithinOk p ls v own w := by
  have hlen := fun W => hv.len (P := Tryd.prog) 22 3 9 Tryd.underlying22 W
  have HL := hid (Len_any p ls w hs)
  have S := hid hs
  have R := hid hr
  have ND := hid hnd
  have V := hid hv
  have O := hid ho
  have hf2 : ls.flatten.length + own.length ≤ 4096 := by rw [← List.length_append]; exact hfew
  have HF := hid (show (ls.flatten ++ own).length = ls.flatten.length + own.length from List.length_append)
  unfold WithinOk
  clear hs hr hnd hv ho hfew
  obtain ⟨C, hC⟩ : ∃ C, ls.flatten.length = C := ⟨_, rfl⟩
  rw [hC] at HL hf2 HF
  have HC := hid hC
  clear hC
  go_enter Tryd.func30, Tryd.ntmps30
  go_wp2_with fail
  refine HL.out.mono ?_
  rintro e w1 ⟨rfl, hw1⟩
  subst hw1
  go_wp2_with fail
  go_loopg [0, 1] ls.length (fun kx s0 s1 wr => ∃ (k : Nat) (pp : Option Addr) (cur : List (List UInt8)), s0 = .pointer pp ∧ k ≤ ls.length ∧ ls.length - k ≤ kx ∧ Hid (IsSc (· < w1.heap.size) w1 pp (ls.drop k) ∧ Strs wr s1 cur ∧ Rise cur ∧ ((ls.drop k).flatten ++ cur).Perm (ls.flatten ++ own) ∧ Below w1.heap.size w1 wr))
  case atStart => exact ⟨0, p, own, rfl, Nat.zero_le _, by omega, hid ⟨by rw [List.drop_zero]; exact S.out, V.out, O.out, by rw [List.drop_zero], Below.refl _ _⟩⟩
  case round =>
    obtain ⟨k, pp, cur, rfl, hk, hg, I⟩ := hrel
    have hpl : (ls.drop k).flatten.length + cur.length = C + own.length := by
      have := I.out.2.2.2.1.length_eq
      rw [List.length_append, HF.out] at this; exact this
    have hcl : cur.length ≤ 4096 := by omega
    obtain ⟨a1, n1, c1, rfl⟩ := slice_form I.out.2.1
    have hlc := fun W => I.out.2.1.len (P := Tryd.prog) 22 3 9 Tryd.underlying22 W
    -- the scope that is made in the end
    have fin : ∀ w2 v', Hid (OwnS wr.heap.size w2 v' cur ∧ Below wr.heap.size wr w2) → ∀ a n c, v' = .slice a n c →
        Hid ((∃ ls', IsSc (· < (w2.alloc (.cells #[.pointer pp, v', .int .i64 ((C : Int) + (own.length : Int))] 57)).heap.size) (w2.alloc (.cells #[.pointer pp, v', .int .i64 ((C : Int) + (own.length : Int))] 57)) (some ⟨w2.heap.size, 0, none⟩) ls' ∧ (∀ l ∈ ls', Rise l) ∧ ls'.flatten.Perm (ls.flatten ++ own)) ∧
          Below w1.heap.size w1 (w2.alloc (.cells #[.pointer pp, v', .int .i64 ((C : Int) + (own.length : Int))] 57))) := fun w2 v' h a n c e => by
      have hb2 : Below w1.heap.size w1 w2 := I.out.2.2.2.2.trans (h.out.2.mono I.out.2.2.2.2.size)
      refine hid ⟨⟨cur :: ls.drop k, mk_sc (I.out.1.later hb2) (h.out.1.strs (by omega)) ?_, fun l hl => ?_, ?_⟩, hb2.alloc hb2.size _⟩
      · rw [List.flatten_cons, List.length_append]; omega
      · rcases List.mem_cons.1 hl with rfl | hl
        · exact I.out.2.2.1
        · exact R.out l (List.mem_of_mem_drop hl)
      · rw [List.flatten_cons]
        exact List.perm_append_comm.trans I.out.2.2.2.1
    have HFIN := hid fin
    have HCL := hid (Clone_any (.slice a1 n1 c1) cur wr I.out.2.1 (by omega))
    clear fin
    by_cases hl : k < ls.length
    · have hI := I.out.1
      have hd := List.drop_eq_getElem_cons hl
      rw [hd] at hI
      obtain ⟨b, po, v0, rfl, hb, e0, e1, e2, hv0, hn0⟩ := hI
      obtain ⟨a0, n0, c0, rfl⟩ := slice_form hv0.1
      have d1 : wr.cell? ⟨b, 1, none⟩ = some (.slice a0 n0 c0) := (I.out.2.2.2.2.cell (p := ⟨b, 1, none⟩) hb).trans e1
      have D0 := hid (fun W (h : Below w1.heap.size w1 W) => (h.cell (p := ⟨b, 0, none⟩) hb).trans e0)
      have hv0r : Strs wr (.slice a0 n0 c0) ls[k] := hv0.1.below I.out.2.2.2.2 (Nat.le_refl _)
      have hl0 := fun W => hv0r.len (P := Tryd.prog) 22 3 9 Tryd.underlying22 W
      have hfl : (ls.drop k).flatten = ls[k] ++ (ls.drop (k + 1)).flatten := by rw [hd, List.flatten_cons]
      have hlk : ls[k].length ≤ 4096 := by rw [hfl, List.length_append] at hpl; omega
      have HV0 := hid hv0r
      have HRk := hid (R.out _ (List.getElem_mem hl))
      have HN0 := hid hn0
      have HFL := hid hfl
      have HDIS : Hid (∀ x ∈ ls[k], x ∉ cur) := hid (by
        have h3 : ((ls.drop k).flatten ++ cur).Nodup := List.Perm.nodup I.out.2.2.2.1.symm ND.out
        rw [hfl] at h3
        intro x hx hx2
        exact (List.nodup_append.1 h3).2.2 x (List.mem_append_left _ hx) x hx2 rfl)
      generalize ls[k] = l at *
      clear hd hv0r hn0 hfl e0 e1 e2 hv0 hb
      by_cases hle : l.length ≤ 2 * cur.length
      · have hlz : (l.length : Int) ≤ 2 * (cur.length : Int) := by omega
        go_wp2_with fail
        refine (Values_any a0 n0 c0 wr).mono ?_
        rintro e X1 ⟨rfl, hX1⟩
        have HX1 := hid hX1
        have hb1 : Below wr.heap.size wr X1 := by rw [hX1]; exact (Below.refl _ wr).alloc (Nat.le_refl _) _
        have hz1 : X1.heap.size = wr.heap.size + 1 := by rw [hX1]; simp
        have hcx : X1.cell? ⟨wr.heap.size, 0, none⟩ = some (.slice a0 n0 c0) := by
          have := World.alloc_heap_new wr (.cells #[.slice a0 n0 c0] 22)
          rw [← hX1] at this
          rw [Lib.cell_of_heap this]; rfl
        have HCX := hid hcx
        have HB1 := hid hb1
        have HZ1 := hid hz1
        clear hX1 hb1 hcx hz1
        go_wp2_with fail
        refine (both_any 66 #[.pointer (some ⟨wr.heap.size, 0, none⟩)] a1 n1 c1 X1).mono ?_
        rintro e X2 ⟨rfl, hX2⟩
        have HC2 := hid (take_in a0 n0 c0 l a1 n1 c1 cur X1 X2 wr.heap.size (by rw [HZ1.out]; omega) HCX.out (HV0.out.below HB1.out (Nat.le_refl _)) (I.out.2.1.below HB1.out (Nat.le_refl _)) hX2 (by omega))
        have hb2 : Below wr.heap.size wr X2 := by rw [hX2]; exact (HB1.out.alloc HB1.out.size _).alloc (by have := HB1.out.size; simp; omega) _
        have HB2 := hid (I.out.2.2.2.2.trans (hb2.mono I.out.2.2.2.2.size))
        clear hX2 hb2
        go_wp2_with fail
        refine HC2.out.mono ?_
        rintro e X3 ⟨v3, rfl, ho3, hb3⟩
        have HB3 := hid (HB2.out.trans (hb3.mono HB2.out.size))
        have dd := D0.out X3 HB3.out
        have HS3 := hid (ho3.strs (by rw [(mrg_perm l cur).length_eq, List.length_append]; omega))
        clear ho3 hb3
        go_wp2
        go_roundg (ls.length - (k + 1))
        case measure => omega
        case rel =>
          refine ⟨k + 1, po, mrg l cur, rfl, hl, Nat.le_refl _, hid ⟨HN0.out, HS3.out, mrg_rise HRk.out I.out.2.2.1 HDIS.out, ?_, HB3.out⟩⟩
          refine ((mrg_perm l cur).append_left _).trans (List.Perm.trans ?_ I.out.2.2.2.1)
          rw [HFL.out, ← List.append_assoc]
          exact (List.perm_append_comm).append_right cur
      · have hlz : ¬ (l.length : Int) ≤ 2 * (cur.length : Int) := by omega
        go_wp2_with fail
        refine HCL.out.mono ?_
        rintro e w2 ⟨v', rfl, ho2, hb2⟩
        obtain ⟨a2, n2, c2, rfl⟩ := slice_form (ho2.strs (by omega))
        have HR := HFIN.out w2 _ (hid ⟨ho2, hb2⟩) a2 n2 c2 rfl
        clear ho2 hb2
        go_wp2
        go_ret
        exact ⟨_, rfl, HR.out⟩
    · have hI := I.out.1
      rw [List.drop_of_length_le (by omega)] at hI
      obtain rfl : pp = none := hI
      go_wp2_with fail
      refine HCL.out.mono ?_
      rintro e w2 ⟨v', rfl, ho2, hb2⟩
      obtain ⟨a2, n2, c2, rfl⟩ := slice_form (ho2.strs (by omega))
      have HR := HFIN.out w2 _ (hid ⟨ho2, hb2⟩) a2 n2 c2 rfl
      clear ho2 hb2
      go_wp2
      go_ret
      exact ⟨_, rfl, HR.out⟩

theorem With_any (p : Option Addr) (N : List (List UInt8)) (v : Value) (l : List (List UInt8)) (w : World) (h : ScAt w p N) (hv : Strs w v l) (hl : l.length ≤ 1000000) (hx : ∀ x ∈ l, x.length ≤ 100000) :
    Calls Tryd.prog 14 #[.pointer p, v] w fun e w' => ∃ po er, e = .returned (.tuple #[.pointer po, .int .i64 er]) ∧ GotSc N l w' po er ∧ Below w.heap.size w w' :=
  With_of p N v l w h hv hl hx fun ls own v W h1 h2 h3 h4 h5 h6 => within_any p ls v own W h1 h2 h3 h4 h5 h6
end Go.Proofs.YthggoohchjifnaaDoor.Sc
