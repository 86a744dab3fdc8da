/- Layer 9: slices.IndexFunc, ContainsFunc and DeleteFunc at the functions that the code hands them. -/
import Derived.Test.YthggoohchjifnaaDoorScB
import Derived.Test.YthggoohchjifnaaDoorNamesX
import Derived.Lib.SlKept
import Derived.Lib.SliceRun
import Derived.Sort.WalkB12
import Derived.Shelf.GgClosure.Gives
import Derived.Shelf.SlicesE.DeleteFunc
set_option linter.unusedVariables false
set_option linter.unusedSimpArgs false
namespace Go.Proofs.YthggoohchjifnaaDoor.Sc
open Go Go.Proofs.YthggoohchjifnaaDoor Go.Proofs.YthggoohchjifnaaDoor.Utf Go.Proofs.YthggoohchjifnaaDoor.Names Go.RowKit Go.Sort Go.Lib
set_option maxRecDepth 100000

theorem wrong_any (x : List UInt8) (hx : x.length ≤ 100000) (w : World) :
    Calls Tryd.prog 29 #[.string (text x)] w fun e w' => e = .returned (.bool (!rightB x)) ∧ Below w.heap.size w w' := by
  have H := hid (fun W => Right_any x hx W)
  go_enter Tryd.func29, Tryd.ntmps29
  go_wp2_with (go_at_call 38; refine (H.out _).mono ?_; rintro e w1 ⟨rfl, hb1⟩)
  go_ret
  exact ⟨rfl, hb1⟩

set_option maxHeartbeats 2000000 in
theorem IndexFunc_wrong (v : Value) (l : List (List UInt8)) (w : World) (hv : Strs w v l) (hx : ∀ x ∈ l, x.length ≤ 100000) :
    Calls Tryd.prog 37 #[v, .func (.func 29) #[] #[]] w fun e w' => ∃ r : Int, e = .returned (.int .i64 r) ∧ decide (0 ≤ r) = l.any (fun x => !rightB x) ∧ Below w.heap.size w w' := by
  have hle := hv.le
  have hlen := fun W => hv.len (P := Tryd.prog) 22 3 9 Tryd.underlying22 W
  have V := hid hv
  have X := hid hx
  have eg : ∀ args w, (callFunc 29 args).run Tryd.prog w = .ok (.enter 29 args) w := enters_of Tryd.func29 (by kernel_rfl) rfl
  clear hv hx
  go_enter Tryd.func37, Tryd.ntmps37
  go_wp2
  go_loopg [5, 8] l.length (fun kx _ s8 wr => ∃ k : Nat, s8 = .int .i64 k ∧ k ≤ l.length ∧ l.length - k ≤ kx ∧ Hid (Below w.heap.size w wr ∧ ∀ j (h : j < l.length), j < k → rightB l[j] = true))
  case atStart => exact ⟨0, rfl, Nat.zero_le _, by omega, hid ⟨Below.refl _ _, fun j _ hj => absurd hj (Nat.not_lt_zero _)⟩⟩
  case round =>
    obtain ⟨k, rfl, hk, hg, I⟩ := hrel
    by_cases hl : k < l.length
    · obtain ⟨b, o, hix, hcl⟩ := (V.out.below I.out.1 (Nat.le_refl _)).at (P := Tryd.prog) k hl 22 9 Tryd.underlying22 Tryd.sizeOf9
      have HW := hid (fun W => wrong_any l[k] (X.out _ (List.getElem_mem hl)) W)
      cases hp : rightB l[k] <;> rw [hp] at HW
      · have HP := hid hp
        clear hp
        generalize text l[k] = ty at *
        go_wp2_with (go_at_fn 29; refine (HW.out _).mono ?_; rintro e w1 ⟨rfl, hb1⟩)
        go_ret
        refine ⟨_, rfl, ?_, I.out.1.trans (hb1.mono I.out.1.size)⟩
        rw [decide_eq_true (by omega), eq_comm, List.any_eq_true]
        exact ⟨_, List.getElem_mem hl, by rw [HP.out]; rfl⟩
      · have HP := hid hp
        clear hp
        generalize text l[k] = ty at *
        go_wp2_with (go_at_fn 29; refine (HW.out _).mono ?_; rintro e w1 ⟨rfl, hb1⟩)
        go_roundg (l.length - (k + 1))
        case measure => omega
        case rel =>
          refine ⟨k + 1, by go_num, by omega, Nat.le_refl _, hid ⟨I.out.1.trans (hb1.mono I.out.1.size), fun j h hj => ?_⟩⟩
          by_cases e : j = k
          · subst e; exact HP.out
          · exact I.out.2 j h (by omega)
    · have e : k = l.length := by omega
      subst e
      go_wp2
      go_ret
      refine ⟨_, rfl, ?_, I.out.1⟩
      rw [decide_eq_false (by omega), eq_comm, List.any_eq_false]
      intro x hx
      obtain ⟨j, hj, rfl⟩ := List.mem_iff_getElem.1 hx
      rw [I.out.2 j hj hj]; simp

theorem ContainsFunc_wrong (v : Value) (l : List (List UInt8)) (w : World) (hv : Strs w v l) (hx : ∀ x ∈ l, x.length ≤ 100000) :
    Calls Tryd.prog 28 #[v, .func (.func 29) #[] #[]] w fun e w' => e = .returned (.bool (l.any (fun x => !rightB x))) ∧ Below w.heap.size w w' := by
  have H := hid (fun W (h : Strs W v l) => IndexFunc_wrong v l W h hx)
  have V := hid hv
  clear hv hx
  generalize l.any (fun x => !rightB x) = a at *
  go_enter Tryd.func28, Tryd.ntmps28
  go_wp2_with (go_at_call 37; refine (H.out _ V.out).mono ?_; rintro e w1 ⟨r, rfl, hr, hb1⟩)
  go_ret
  exact ⟨rfl, hb1⟩

set_option maxHeartbeats 2000000 in
theorem IndexFunc_has {D : Nat → Prop} (p : Option Addr) (ls : List (List (List UInt8))) (v : Value) (l : List (List UInt8)) (w : World) (hs : IsSc D w p ls) (hr : ∀ l ∈ ls, Rise l) (hv : Strs w v l) :
    Calls Tryd.prog 37 #[v, .func (.func 20) #[.pointer p] #[]] w fun e w' => ∃ r : Int, e = .returned (.int .i64 r) ∧
      ((r = -1 ∧ ∀ x ∈ l, x ∉ ls.flatten) ∨ ∃ k : Nat, ∃ h : k < l.length, r = k ∧ l[k] ∈ ls.flatten ∧ ∀ j (h : j < l.length), j < k → l[j] ∉ ls.flatten) ∧ ∃ q, w' = w.drewN q := by
  have hle := hv.le
  have hlen := fun W => hv.len (P := Tryd.prog) 22 3 9 Tryd.underlying22 W
  have V := hid hv
  have HH := hid (fun (x : List UInt8) q => Has_any p ls x (w.drewN q) (hs.drew q) hr)
  have eg : ∀ args w, (callFunc 20 args).run Tryd.prog w = .ok (.enter 20 args) w := enters_of Tryd.func20 (by kernel_rfl) rfl
  clear hv hs hr
  go_enter Tryd.func37, Tryd.ntmps37
  go_wp2
  go_loopg [5, 8] l.length (fun kx _ s8 wr => ∃ k q : Nat, s8 = .int .i64 k ∧ k ≤ l.length ∧ l.length - k ≤ kx ∧ wr = w.drewN q ∧ Hid (∀ j (h : j < l.length), j < k → l[j] ∉ ls.flatten))
  case atStart => exact ⟨0, 0, rfl, Nat.zero_le _, by omega, rfl, hid fun j _ hj => absurd hj (Nat.not_lt_zero _)⟩
  case round =>
    obtain ⟨k, q, rfl, hk, hg, rfl, I⟩ := hrel
    by_cases hl : k < l.length
    · obtain ⟨b, o, hix, hcl⟩ := V.out.at (P := Tryd.prog) k hl 22 9 Tryd.underlying22 Tryd.sizeOf9
      have HW := hid (HH.out l[k] q)
      by_cases hp : l[k] ∈ ls.flatten
      · rw [decide_eq_true hp] at HW
        have HP := hid hp
        clear hp
        generalize text l[k] = ty at *
        go_wp2_with (go_at_fn 20; refine HW.out.mono ?_; rintro e w1 ⟨rfl, nq, rfl⟩)
        go_ret
        exact ⟨_, rfl, .inr ⟨k, hl, rfl, HP.out, I.out⟩, q + nq, rfl⟩
      · rw [decide_eq_false hp] at HW
        have HP := hid hp
        clear hp
        generalize text l[k] = ty at *
        go_wp2_with (go_at_fn 20; refine HW.out.mono ?_; rintro e w1 ⟨rfl, nq, rfl⟩)
        go_roundg (l.length - (k + 1))
        case measure => omega
        case rel =>
          refine ⟨k + 1, q + nq, by go_num, by omega, Nat.le_refl _, rfl, hid fun j h hj => ?_⟩
          by_cases e : j = k
          · subst e; exact HP.out
          · exact I.out j h (by omega)
    · have e : k = l.length := by omega
      subst e
      go_wp2
      go_ret
      refine ⟨_, rfl, .inl ⟨rfl, fun x hx => ?_⟩, q, rfl⟩
      obtain ⟨j, hj, rfl⟩ := List.mem_iff_getElem.1 hx
      exact I.out j hj hj

theorem below_put {B : Nat} {w : World} {g : Nat} (hg : B ≤ g) (q : Nat) (d : Array (List UInt8)) : Below B w (putRow encStr (Sort.ahead w q) g 0 d) := by
  refine ⟨rfl, rfl, rfl, by simp, fun k hk => ?_⟩
  show (w.heap.modify g _)[k]? = _
  rw [Array.getElem?_modify, if_neg (by omega)]

set_option maxHeartbeats 4000000 in
theorem DeleteFunc_has {B : Nat} (p : Option Addr) (ls : List (List (List UInt8))) (v : Value) (l : List (List UInt8)) (w : World) (hs : IsSc (· < B) w p ls) (hr : ∀ l ∈ ls, Rise l) (ho : OwnS B w v l) (hl : l.length ≤ 1000000) :
    Calls Tryd.prog 27 #[v, .func (.func 20) #[.pointer p] #[]] w fun e w' => ∃ v', e = .returned v' ∧ OwnS B w' v' (l.filter fun x => !decide (x ∈ ls.flatten)) ∧ Below B w w' := by
  have hI := IndexFunc_has p ls v l w hs hr (ho.strs (by omega))
  have hlen := fun W => (ho.strs (by omega)).len (P := Tryd.prog) 22 3 9 Tryd.underlying22 W
  by_cases hno : ∀ x ∈ l, x ∉ ls.flatten
  · have hf : l.filter (fun x => !decide (x ∈ ls.flatten)) = l := List.filter_eq_self.2 fun x hx => by simp only [decide_eq_false (hno x hx)]; rfl
    rw [hf]
    have HI := hid hI
    have HO := hid ho
    have HN := hid hno
    clear hI ho hno hs hr hf
    go_enter Tryd.func27, Tryd.ntmps27
    go_wp2_with fail
    refine HI.out.mono ?_
    rintro e w1 ⟨r, rfl, hr, q, rfl⟩
    obtain rfl : r = -1 := by
      rcases hr with ⟨rfl, _⟩ | ⟨k, h, _, hm, _⟩
      · rfl
      · exact absurd hm (HN.out _ (List.getElem_mem h))
    clear hr
    go_wp2
    go_ret
    have hb : Below w.heap.size w (w.drewN q) := below_drewN w (Below.refl _ _) q
    exact ⟨_, rfl, HO.out.later hb, below_drewN w (Below.refl _ _) q⟩
  · rcases ho.form with ⟨rfl, rfl⟩ | ⟨g, cap, rfl, hB, hg, hn, hc, hH⟩
    · exact absurd (fun x hx => by cases hx) hno
    have hml : maxLen ≤ 9223372036854775807 := by decide
    have HM := hid hml
    have hcap : cap ≤ 9223372036854775807 := by omega
    obtain ⟨kp, HK⟩ : ∃ kp : Nat → Bool, Hid (kp = fun j => !decide (l.toArray[j]! ∈ ls.flatten)) := ⟨_, rfl⟩
    have hfil : l.filter (fun x => !decide (x ∈ ls.flatten)) = keptUpTo kp l.toArray l.toArray.size := by rw [HK.out]; exact (keptUpTo_filter (fun x => !decide (x ∈ ls.flatten)) l.toArray).symm
    have hfl : (keptUpTo kp l.toArray l.toArray.size).length ≤ l.length := by rw [← hfil]; exact List.length_filter_le _ _
    rw [hfil]
    have HC := hid (fun (x : List UInt8) q d => Has_any p ls x (putRow encStr (Sort.ahead w q) g 0 d) (hs.same (same_below (below_put hB q d))) hr)
    have HH := hid hH
    have HI := hid hI
    have HO := hid ho
    have HN := hid hno
    have HF := hid hfl
    have eg : ∀ args w, (callFunc 20 args).run Tryd.prog w = .ok (.enter 20 args) w := enters_of Tryd.func20 (by kernel_rfl) rfl
    have atl : ∀ j (h : j < l.length), l.toArray[j]! = l[j] := fun j h => by simp [h]
    have AL := hid atl
    clear hI ho hno hs hr hH hfl hfil atl hml hc
    generalize hd : l.toArray = d at *
    have hds : d.size = l.length := by rw [← hd]; simp
    have HD := hid hd
    clear hd
    go_enter Tryd.func27, Tryd.ntmps27
    go_wp2_with fail
    refine HI.out.mono ?_
    rintro e w1 ⟨r, rfl, hr, q0, rfl⟩
    obtain ⟨k0, hk0, rfl, HT⟩ : ∃ k0 : Nat, ∃ h : k0 < l.length, r = k0 ∧ Hid (l[k0] ∈ ls.flatten ∧ ∀ j (h : j < l.length), j < k0 → l[j] ∉ ls.flatten) := by
      rcases hr with ⟨_, h⟩ | ⟨k, h, rfl, h1, h2⟩
      · exact absurd h HN.out
      · exact ⟨k, h, rfl, hid ⟨h1, h2⟩⟩
    clear hr
    have hne1 : ((k0 : Int) == -1) = false := beq_eq_false_iff_ne.2 (by omega)
    have hkeep : ∀ j, j < k0 → kp j = true := fun j hj => by
      rw [HK.out]
      show (!decide (d[j]! ∈ ls.flatten)) = true
      rw [AL.out j (by omega), decide_eq_false (HT.out.2 j (by omega) hj)]; rfl
    have hdrop : kp k0 = false := by
      rw [HK.out]
      show (!decide (d[k0]! ∈ ls.flatten)) = false
      rw [AL.out k0 hk0, decide_eq_true HT.out.1]; rfl
    have HS := hid (KeptInv.start (d := d) hkeep hdrop)
    have h0 : w.drewN q0 = putRow encStr (Sort.ahead w q0) g 0 d := (putRow_self encStr (Sort.ahead w q0) g 0 d (holds_ahead encStr w q0 g 0 _ HH.out)).symm
    rw [h0]
    clear h0 hkeep hdrop
    go_wp2_with fail
    go_loopg [5, 6, 7] l.length (fun gg s5 s6 _ wr => ∃ (i j q : Nat) (dk : Array (List UInt8)), s5 = .int .i64 i ∧ s6 = .int .i64 j ∧ j ≤ l.length ∧ l.length - j ≤ gg ∧ wr = putRow encStr (Sort.ahead w q) g 0 dk ∧ Hid (KeptInv kp d j i dk))
    case atStart => exact ⟨k0, k0 + 1, q0, d, rfl, by go_num, by omega, by omega, rfl, HS⟩
    case round =>
      obtain ⟨i, j, q, dk, rfl, rfl, hjd, hgg, hwr, I2⟩ := hrel
      have hij := I2.out.lt
      have hdk : dk.size = l.length := I2.out.size.trans hds
      have hHk : Holds encStr wr g 0 dk := by rw [hwr]; exact holds_putRow encStr _ g 0 d dk (holds_ahead encStr w q g 0 _ HH.out) (by omega)
      have W2 := hid hwr
      by_cases hlt : j < l.length
      · have hltz : (j : Int) < (l.length : Int) := by omega
        obtain ⟨cj, _⟩ := hHk j (by omega)
        obtain ⟨ci, fi⟩ := hHk i (by omega)
        rw [I2.out.high j (by omega)] at cj
        have hcall := HC.out d[j]! q dk
        rw [← hwr] at hcall
        clear hHk hwr
        have ci' : wr.cell? ⟨g, i, none⟩ = some (.string (text dk[i]!)) := by rw [Nat.zero_add] at ci; exact ci
        have cj' : wr.cell? ⟨g, j, none⟩ = some (.string (text d[j]!)) := by rw [Nat.zero_add] at cj; exact cj
        have fi' : wr.frozen? ⟨g, i, none⟩ = false := by rw [Nat.zero_add] at fi; exact fi
        clear ci cj fi
        generalize text dk[i]! = old at ci'
        by_cases hq : d[j]! ∈ ls.flatten
        · rw [decide_eq_true hq] at hcall
          have HQ := hid hq
          have HCL := hid hcall
          clear hq hcall
          generalize text d[j]! = ty at *
          go_wp2_with (go_at_fn 20; refine HCL.out.mono ?_; rintro e w' ⟨rfl, qq, rfl⟩)
          go_roundg (l.length - (j + 1))
          case measure => omega
          case rel => exact ⟨i, j + 1, q + qq, dk, rfl, by go_num, by omega, Nat.le_refl _, by rw [W2.out]; exact putRow_drewN _ _ _ _ _ _ _, hid (I2.out.skip (by rw [HK.out]; show (!decide (d[j]! ∈ ls.flatten)) = false; rw [decide_eq_true HQ.out]; rfl))⟩
        · rw [decide_eq_false hq] at hcall
          have HQ := hid hq
          have HCL := hid hcall
          have HTY : Hid (text d[j]! = text d[j]!) := hid rfl
          obtain ⟨ty, hty⟩ : ∃ ty, text d[j]! = ty := ⟨_, rfl⟩
          rw [hty] at cj' HCL
          have HY := hid hty
          clear hq hcall hty HTY
          go_wp2_with (go_at_fn 20; refine HCL.out.mono ?_; rintro e w' ⟨rfl, qq, rfl⟩)
          go_roundg (l.length - (j + 1))
          case measure => omega
          case rel =>
            refine ⟨i + 1, j + 1, q + qq, dk.setIfInBounds i d[j]!, by go_num, by go_num, by omega, Nat.le_refl _, ?_, hid ?_⟩
            · rw [W2.out, show (putRow encStr (Sort.ahead w q) g 0 dk).drewN qq = putRow encStr (Sort.ahead w (q + qq)) g 0 dk from putRow_drewN _ _ _ _ _ _ _]
              have := putRow_set encStr (Sort.ahead w (q + qq)) g 0 dk i d[j]! (by omega)
              rw [Nat.zero_add] at this
              rw [← HY.out]
              exact this
            · exact I2.out.keep (by omega) (by rw [HK.out]; show (!decide (d[j]! ∈ ls.flatten)) = true; rw [decide_eq_false HQ.out]; rfl)
      · obtain rfl : j = l.length := by omega
        have hltz : ¬ (l.length : Int) < (l.length : Int) := by omega
        have hcl : ∀ ty, (Builtin.clear_ #[22] ty #[.slice (some ⟨g, i, none⟩) (l.length - i) (cap - i)]).run Tryd.prog wr = .ok (.tuple #[]) (wr.setCells g i (List.replicate (l.length - i) (encStr []))) :=
          fun ty => Lib.run_clear_slice wr _ _ ty _ Tryd.underlying22 Tryd.zeroValue9 rfl rfl g i _ _ (by omega) (fun t ht => by have := (hHk (i + t) (by omega)).1; rw [Nat.zero_add] at this; rw [this]; rfl) (fun t ht => by have := (hHk (i + t) (by omega)).2; rw [Nat.zero_add] at this; exact this)
        clear hHk hwr
        go_wp2
        go_ret
        have hI2 : KeptInv kp d d.size i dk := by rw [hds]; exact I2.out
        have e1 := hI2.done ([] : List UInt8)
        have e2 := putRow_setCells encStr (Sort.ahead w q) g 0 (List.replicate (d.size - i) []) dk i (by simp; omega)
        rw [e1, Nat.zero_add] at e2
        have e3 := hI2.len
        have hput := HO.out.put (keptUpTo kp d d.size) (List.replicate (d.size - i) []) (by simp; omega) q #[]
        rw [grow_empty, ← e2, ← W2.out] at hput
        refine ⟨_, rfl, ?_⟩
        rw [← hds] at *
        simpa [e3] using hput
end Go.Proofs.YthggoohchjifnaaDoor.Sc
