/- Layer 14: contracts of container/heap's up, down, Push, Pop at the heap's type. -/
import Derived.Test.YtkpmkabddhpojaaOrE
set_option linter.unusedVariables false
set_option linter.unusedSimpArgs false
namespace Go.Proofs.Ytkpmkabddhpojaa.Or
open Go Go.Proofs.Ytkpmkabddhpojaa Go.RowKit
set_option maxRecDepth 100000

section
variable {B R : Nat} {w : World} {v : Value} {l : List Nat}
theorem load_box (h : Hp B R w v l) : (loadVar 56 ⟨R, 0, none⟩).run Try.prog w = .ok v w := by
  obtain ⟨a, n, c, rfl⟩ : ∃ a n c, v = .slice a n c := by
    rcases h.own.2 with ⟨rfl, _⟩ | ⟨g, cap, cur, rfl, _⟩
    · exact ⟨_, _, _, rfl⟩
    · exact ⟨_, _, _, rfl⟩
  have hc := h.cell
  simp [loadVar, isAgg, run_underlying Try.underlying56, hc]
theorem find_less (h : Hp B R w v l) (n : Nat) : (method (n + 1) 55 (.pointer (some ⟨R, 0, none⟩)) "Less").run Try.prog w = .ok (78, v) w :=
  finds "Less" _ false (by kernel_rfl) _ w (fun _ => load_box h) n
theorem find_len (h : Hp B R w v l) (n : Nat) : (method (n + 1) 55 (.pointer (some ⟨R, 0, none⟩)) "Len").run Try.prog w = .ok (30, v) w :=
  finds "Len" _ false (by kernel_rfl) _ w (fun _ => load_box h) n
theorem find_swap (h : Hp B R w v l) (n : Nat) : (method (n + 1) 55 (.pointer (some ⟨R, 0, none⟩)) "Swap").run Try.prog w = .ok (81, v) w :=
  finds "Swap" _ false (by kernel_rfl) _ w (fun _ => load_box h) n
theorem find_push (w : World) (n : Nat) : (method (n + 1) 55 (.pointer (some ⟨R, 0, none⟩)) "Push").run Try.prog w = .ok (80, .pointer (some ⟨R, 0, none⟩)) w :=
  finds (v := .nilIface) "Push" _ true (by kernel_rfl) _ w (fun e => by cases e) n
theorem find_pop (w : World) (n : Nat) : (method (n + 1) 55 (.pointer (some ⟨R, 0, none⟩)) "Pop").run Try.prog w = .ok (79, .pointer (some ⟨R, 0, none⟩)) w :=
  finds (v := .nilIface) "Pop" _ true (by kernel_rfl) _ w (fun e => by cases e) n
end
theorem Less_get {B : Nat} {w : World} {v : Value} {l : List Nat} (h : w.ownsRow B 3 1 v l.length (nums l)) (i j : Nat) (hi : i < l.length) (hj : j < l.length) :
    Calls Try.prog 78 #[v, .int .i64 i, .int .i64 j] w fun e w' => e = .returned (.bool (decide (l.getD i 0 < l.getD j 0))) ∧ Below w.heap.size w w' := by
  have := Less_any h i j hi hj
  rw [show l.getD i 0 = l[i] by simp [hi], show l.getD j 0 = l[j] by simp [hj]]
  exact this
theorem Hp.swap {B R : Nat} {w w' : World} {v : Value} {l l' : List Nat} (h : Hp B R w v l) (ho : w'.ownsRow B 3 1 v l'.length (nums l')) (k : Kx (fun b => v.ownBlock = some b) w w') : Hp B R w' v l' := ⟨(k.block R h.lt h.apart).trans h.box, ho⟩
set_option maxHeartbeats 4000000 in
theorem up_any {B R : Nat} {w : World} {v : Value} {l : List Nat} (h : Hp B R w v l) (j : Nat) (hj : Upp l j) (hl : l.length ≤ 1000000) :
    Calls Try.prog 38 #[.iface 55 (.pointer (some ⟨R, 0, none⟩)), .int .i64 j] w fun e w' => e = .returned (.tuple #[]) ∧ ∃ l', Hp B R w' v l' ∧ l'.Perm l ∧ Heap l' ∧ Kx (fun b => v.ownBlock = some b) w w' := by
  have HH := hid h
  have HJ := hid hj
  have hjl := hj.lt
  clear h hj
  go_enter Try.func38, Try.ntmps38
  go_wp2_with fail
  go_loopg [1] (j + 1) (fun kx s1 X => ∃ (i : Nat) (m : List Nat), s1 = .int .i64 i ∧ i < l.length ∧ i < kx ∧ Hid (Hp B R X v m) ∧ Hid (m.Perm l) ∧ Hid (Upp m i) ∧ Hid (Kx (fun b => v.ownBlock = some b) w X))
  case atStart => exact ⟨j, l, rfl, hjl, by omega, HH, hid (List.Perm.refl _), HJ, hid (Kx.refl _ w)⟩
  case round =>
    rename World => X
    obtain ⟨i, m, rfl, hi, hg, HX, HP, HU, HK⟩ := hrel
    rcases Nat.eq_zero_or_pos i with rfl | h0
    · go_wp2
      go_end0
      exact ⟨rfl, m, HX.out, HP.out, upp_stop HU.out (.inl rfl), HK.out⟩
    · obtain ⟨p, hp⟩ : ∃ p, (i - 1) / 2 = p := ⟨_, rfl⟩
      have hq : Int.tdiv ((i : Int) - 1) 2 = (p : Int) := by rw [Int.tdiv_eq_ediv_of_nonneg (by omega)]; omega
      have hpi : p < i := by omega
      have hml : m.length = l.length := HP.out.length_eq
      have mL := find_less HX.out 210
      have LS := hid (Less_get HX.out.own i p (by omega) (by omega))
      have HPP := hid hp
      have HML := hid hml
      clear hp hml
      cases hb : decide (m.getD i 0 < m.getD p 0) with
      | false =>
        rw [hb] at LS
        have HE := hid (upp_stop HU.out (.inr (by rw [HPP.out]; simpa using hb)))
        clear hb
        go_wp2_with fail
        refine LS.out.mono ?_
        rintro e w1 ⟨rfl, b1⟩
        have HX1 := hid (HX.out.later b1)
        have HK1 := hid (HK.out.tr (Kx.of_below b1))
        clear b1
        go_wp2_with fail
        go_end0
        exact ⟨rfl, m, HX1.out, HP.out, HE.out, HK1.out⟩
      | true =>
        rw [hb] at LS
        have hb' : m.getD i 0 < m.getD p 0 := by simpa using hb
        have HE := hid (show Upp (sw m p i) p by have := upp_swap HU.out h0 (by rw [HPP.out]; exact hb'); rwa [HPP.out] at this)
        have HPS := hid ((sw_perm m (i := p) (j := i) (by have := HML.out; omega) (by have := HML.out; omega)).trans HP.out)
        clear hb hb'
        go_wp2_with fail
        refine LS.out.mono ?_
        rintro e w1 ⟨rfl, b1⟩
        have HX1 := hid (HX.out.later b1)
        have HK1 := hid (HK.out.tr (Kx.of_below b1))
        have mS := find_swap HX1.out 210
        have SW := hid (Swap_any HX1.out.own p i (by have := HML.out; omega) (by have := HML.out; omega))
        clear b1
        go_wp2_with fail
        refine SW.out.mono ?_
        rintro e w2 ⟨rfl, ho2, k2⟩
        have HX2 := hid (HX1.out.swap ho2 k2)
        have HK2 := hid (HK1.out.tr k2)
        clear ho2 k2
        go_wp2_with fail
        go_roundg i
        case measure => omega
        case rel => exact ⟨p, _, rfl, by omega, by omega, HX2, HPS, HE, HK2⟩

def AnyRet (e : Ending) : Prop := ∃ x, e = .returned x
set_option maxHeartbeats 8000000 in
theorem down_any {B R : Nat} {w : World} {v : Value} {l : List Nat} (h : Hp B R w v l) (n : Nat) (hd : Dn l 0 n) (hl : l.length ≤ 1000000) :
    Calls Try.prog 39 #[.iface 55 (.pointer (some ⟨R, 0, none⟩)), .int .i64 0, .int .i64 n] w fun e w' => AnyRet e ∧ ∃ l', Hp B R w' v l' ∧ l'.Perm l ∧ HeapN l' n ∧ l'.getD n 0 = l.getD n 0 ∧ Kx (fun b => v.ownBlock = some b) w w' := by
  have HH := hid h
  have HD := hid hd
  have hnl := hd.le
  clear h hd
  go_enter Try.func39, Try.ntmps39
  go_wp2_with fail
  go_loopg [7] (n + 1) (fun kx s7 X => ∃ (i : Nat) (m : List Nat), s7 = .int .i64 i ∧ i ≤ n ∧ n - i < kx ∧ Hid (Hp B R X v m) ∧ Hid (m.Perm l) ∧ Hid (Dn m i n) ∧ Hid (m.getD n 0 = l.getD n 0) ∧ Hid (Kx (fun b => v.ownBlock = some b) w X))
  case atStart => exact ⟨0, l, rfl, by omega, by omega, HH, hid (List.Perm.refl _), HD, hid rfl, hid (Kx.refl _ w)⟩
  case round =>
    rename World => X
    obtain ⟨i, m, rfl, hi, hg, HX, HP, HU, HN, HK⟩ := hrel
    have hml : m.length = l.length := HP.out.length_eq
    have HML := hid hml
    clear hml
    by_cases c1 : 2 * i + 1 < n
    · by_cases c2 : 2 * i + 2 < n
      · have mL := find_less HX.out 210
        have LS := hid (Less_get HX.out.own (2 * i + 2) (2 * i + 1) (by have := HML.out; omega) (by have := HML.out; omega))
        rw [show ((2 * i + 2 : Nat) : Int) = 2 * (i : Int) + 1 + 1 by omega, show ((2 * i + 1 : Nat) : Int) = 2 * (i : Int) + 1 by omega] at LS
        cases hb : decide (m.getD (2 * i + 2) 0 < m.getD (2 * i + 1) 0) with
        | false =>
          rw [hb] at LS
          have HM := hid (show ∀ c, 0 < c → c < n → (c - 1) / 2 = i → m.getD (2 * i + 1) 0 ≤ m.getD c 0 from fun c h0 hc hp => by
            have hb' : ¬ m.getD (2 * i + 2) 0 < m.getD (2 * i + 1) 0 := by simpa using hb
            rcases (show c = 2 * i + 1 ∨ c = 2 * i + 2 by omega) with rfl | rfl
            · exact Nat.le_refl _
            · omega)
          clear hb
          go_wp2_with fail
          refine LS.out.mono ?_
          rintro e w1 ⟨rfl, b1⟩
          have HX1 := hid (HX.out.later b1)
          have HK1 := hid (HK.out.tr (Kx.of_below b1))
          clear b1 mL
          have mL2 := find_less HX1.out 210
          have LS2 := hid (Less_get HX1.out.own (2 * i + 1) i (by have := HML.out; omega) (by have := HML.out; omega))
          rw [show ((2 * i + 1 : Nat) : Int) = 2 * (i : Int) + 1 by omega] at LS2
          cases hb2 : decide (m.getD (2 * i + 1) 0 < m.getD i 0) with
          | false =>
            rw [hb2] at LS2
            have HE := hid (dn_stop HU.out (fun c h0 hc hp => Nat.le_trans (by simpa using hb2) (HM.out c h0 hc hp)))
            clear hb2
            go_wp2_with fail
            refine LS2.out.mono ?_
            rintro e w2 ⟨rfl, b2⟩
            have HX2 := hid (HX1.out.later b2)
            have HK2 := hid (HK1.out.tr (Kx.of_below b2))
            clear b2
            go_wp2_with fail
            go_ret
            exact ⟨⟨_, rfl⟩, m, HX2.out, HP.out, HE.out, HN.out, HK2.out⟩
          | true =>
            rw [hb2] at LS2
            have hb' : m.getD (2 * i + 1) 0 < m.getD i 0 := by simpa using hb2
            have HE := hid (dn_swap HU.out (j := 2 * i + 1) (by omega) (by omega) (by omega) HM.out hb')
            have HPS := hid ((sw_perm m (i := i) (j := 2 * i + 1) (by have := HML.out; omega) (by have := HML.out; omega)).trans HP.out)
            have HNS := hid (show (sw m i (2 * i + 1)).getD n 0 = l.getD n 0 by rw [sw_at m (by have := HML.out; omega) (by have := HML.out; omega), if_neg (by omega), if_neg (by omega)]; exact HN.out)
            clear hb2 hb'
            go_wp2_with fail
            refine LS2.out.mono ?_
            rintro e w2 ⟨rfl, b2⟩
            have HX2 := hid (HX1.out.later b2)
            have HK2 := hid (HK1.out.tr (Kx.of_below b2))
            have mS := find_swap HX2.out 210
            have SW := hid (Swap_any HX2.out.own i (2 * i + 1) (by have := HML.out; omega) (by have := HML.out; omega))
            rw [show ((2 * i + 1 : Nat) : Int) = 2 * (i : Int) + 1 by omega] at SW
            clear b2
            go_wp2_with fail
            refine SW.out.mono ?_
            rintro e w3 ⟨rfl, ho3, k3⟩
            have HX3 := hid (HX2.out.swap ho3 k3)
            have HK3 := hid (HK2.out.tr k3)
            clear ho3 k3
            go_wp2_with fail
            go_roundg (n - i)
            case measure => omega
            case rel => exact ⟨2 * i + 1, _, by go_num, by omega, by omega, HX3, HPS, HE, HNS, HK3⟩
        | true =>
          rw [hb] at LS
          have HM := hid (show ∀ c, 0 < c → c < n → (c - 1) / 2 = i → m.getD (2 * i + 2) 0 ≤ m.getD c 0 from fun c h0 hc hp => by
            have hb' : m.getD (2 * i + 2) 0 < m.getD (2 * i + 1) 0 := by simpa using hb
            rcases (show c = 2 * i + 1 ∨ c = 2 * i + 2 by omega) with rfl | rfl
            · omega
            · exact Nat.le_refl _)
          clear hb
          go_wp2_with fail
          refine LS.out.mono ?_
          rintro e w1 ⟨rfl, b1⟩
          have HX1 := hid (HX.out.later b1)
          have HK1 := hid (HK.out.tr (Kx.of_below b1))
          clear b1 mL
          have mL2 := find_less HX1.out 210
          have LS2 := hid (Less_get HX1.out.own (2 * i + 2) i (by have := HML.out; omega) (by have := HML.out; omega))
          rw [show ((2 * i + 2 : Nat) : Int) = 2 * (i : Int) + 1 + 1 by omega] at LS2
          cases hb2 : decide (m.getD (2 * i + 2) 0 < m.getD i 0) with
          | false =>
            rw [hb2] at LS2
            have HE := hid (dn_stop HU.out (fun c h0 hc hp => Nat.le_trans (by simpa using hb2) (HM.out c h0 hc hp)))
            clear hb2
            go_wp2_with fail
            refine LS2.out.mono ?_
            rintro e w2 ⟨rfl, b2⟩
            have HX2 := hid (HX1.out.later b2)
            have HK2 := hid (HK1.out.tr (Kx.of_below b2))
            clear b2
            go_wp2_with fail
            go_ret
            exact ⟨⟨_, rfl⟩, m, HX2.out, HP.out, HE.out, HN.out, HK2.out⟩
          | true =>
            rw [hb2] at LS2
            have hb' : m.getD (2 * i + 2) 0 < m.getD i 0 := by simpa using hb2
            have HE := hid (dn_swap HU.out (j := 2 * i + 2) (by omega) (by omega) (by omega) HM.out hb')
            have HPS := hid ((sw_perm m (i := i) (j := 2 * i + 2) (by have := HML.out; omega) (by have := HML.out; omega)).trans HP.out)
            have HNS := hid (show (sw m i (2 * i + 2)).getD n 0 = l.getD n 0 by rw [sw_at m (by have := HML.out; omega) (by have := HML.out; omega), if_neg (by omega), if_neg (by omega)]; exact HN.out)
            clear hb2 hb'
            go_wp2_with fail
            refine LS2.out.mono ?_
            rintro e w2 ⟨rfl, b2⟩
            have HX2 := hid (HX1.out.later b2)
            have HK2 := hid (HK1.out.tr (Kx.of_below b2))
            have mS := find_swap HX2.out 210
            have SW := hid (Swap_any HX2.out.own i (2 * i + 2) (by have := HML.out; omega) (by have := HML.out; omega))
            rw [show ((2 * i + 2 : Nat) : Int) = 2 * (i : Int) + 1 + 1 by omega] at SW
            clear b2
            go_wp2_with fail
            refine SW.out.mono ?_
            rintro e w3 ⟨rfl, ho3, k3⟩
            have HX3 := hid (HX2.out.swap ho3 k3)
            have HK3 := hid (HK2.out.tr k3)
            clear ho3 k3
            go_wp2_with fail
            go_roundg (n - i)
            case measure => omega
            case rel => exact ⟨2 * i + 2, _, by go_num, by omega, by omega, HX3, HPS, HE, HNS, HK3⟩
      · have HM := hid (show ∀ c, 0 < c → c < n → (c - 1) / 2 = i → m.getD (2 * i + 1) 0 ≤ m.getD c 0 from fun c h0 hc hp => by
          obtain rfl : c = 2 * i + 1 := by omega
          exact Nat.le_refl _)
        have mL2 := find_less HX.out 210
        have LS2 := hid (Less_get HX.out.own (2 * i + 1) i (by have := HML.out; omega) (by have := HML.out; omega))
        rw [show ((2 * i + 1 : Nat) : Int) = 2 * (i : Int) + 1 by omega] at LS2
        cases hb2 : decide (m.getD (2 * i + 1) 0 < m.getD i 0) with
        | false =>
          rw [hb2] at LS2
          have HE := hid (dn_stop HU.out (fun c h0 hc hp => Nat.le_trans (by simpa using hb2) (HM.out c h0 hc hp)))
          clear hb2
          go_wp2_with fail
          refine LS2.out.mono ?_
          rintro e w2 ⟨rfl, b2⟩
          have HX2 := hid (HX.out.later b2)
          have HK2 := hid (HK.out.tr (Kx.of_below b2))
          clear b2
          go_wp2_with fail
          go_ret
          exact ⟨⟨_, rfl⟩, m, HX2.out, HP.out, HE.out, HN.out, HK2.out⟩
        | true =>
          rw [hb2] at LS2
          have hb' : m.getD (2 * i + 1) 0 < m.getD i 0 := by simpa using hb2
          have HE := hid (dn_swap HU.out (j := 2 * i + 1) (by omega) (by omega) (by omega) HM.out hb')
          have HPS := hid ((sw_perm m (i := i) (j := 2 * i + 1) (by have := HML.out; omega) (by have := HML.out; omega)).trans HP.out)
          have HNS := hid (show (sw m i (2 * i + 1)).getD n 0 = l.getD n 0 by rw [sw_at m (by have := HML.out; omega) (by have := HML.out; omega), if_neg (by omega), if_neg (by omega)]; exact HN.out)
          clear hb2 hb'
          go_wp2_with fail
          refine LS2.out.mono ?_
          rintro e w2 ⟨rfl, b2⟩
          have HX2 := hid (HX.out.later b2)
          have HK2 := hid (HK.out.tr (Kx.of_below b2))
          have mS := find_swap HX2.out 210
          have SW := hid (Swap_any HX2.out.own i (2 * i + 1) (by have := HML.out; omega) (by have := HML.out; omega))
          rw [show ((2 * i + 1 : Nat) : Int) = 2 * (i : Int) + 1 by omega] at SW
          clear b2
          go_wp2_with fail
          refine SW.out.mono ?_
          rintro e w3 ⟨rfl, ho3, k3⟩
          have HX3 := hid (HX2.out.swap ho3 k3)
          have HK3 := hid (HK2.out.tr k3)
          clear ho3 k3
          go_wp2_with fail
          go_roundg (n - i)
          case measure => omega
          case rel => exact ⟨2 * i + 1, _, by go_num, by omega, by omega, HX3, HPS, HE, HNS, HK3⟩
    · have HE := hid (dn_stop HU.out (fun c h0 hc hp => by omega))
      go_wp2
      go_ret
      exact ⟨⟨_, rfl⟩, m, HX.out, HP.out, HE.out, HN.out, HK.out⟩

set_option maxHeartbeats 4000000 in
/-- One more comes on the heap. -/
theorem HPush_any {B R : Nat} {w : World} {v : Value} {l : List Nat} (h : Hp B R w v l) (hh : Heap l) (hB : B ≤ w.heap.size) (k : Nat) (hl : l.length ≤ 900000) :
    Calls Try.prog 29 #[.iface 55 (.pointer (some ⟨R, 0, none⟩)), .iface 3 (.int .i64 k)] w fun e w' => e = .returned (.tuple #[]) ∧ ∃ v' l', Hp B R w' v' l' ∧ l'.Perm (k :: l) ∧ Heap l' ∧ Pushed B R w v w' v' := by
  have mP := fun W => find_push (R := R) W 210
  have PU := hid (Push_any h hB k (by omega))
  have HU := hid (upp_push hh k)
  have HLL := hid (show (l ++ [k]).length ≤ 1000000 by simp; omega)
  have HPR := hid (show (l ++ [k]).Perm (k :: l) from List.perm_append_comm)
  clear h hh
  go_enter Try.func29, Try.ntmps29
  go_wp2_with fail
  refine PU.out.mono ?_
  rintro e w1 ⟨rfl, v1, h1, p1⟩
  have H1 := hid h1
  have P1 := hid p1
  have mN := find_len h1 210
  have LN := hid (Len_any h1.own)
  have UP := hid (up_any h1 l.length HU.out HLL.out)
  rw [List.length_append, List.length_singleton] at LN
  clear h1 p1
  go_wp2_with fail
  refine LN.out.mono ?_
  rintro e w2 ⟨rfl, rfl⟩
  have e1 : IntKind.i64.wrap ((l.length + 1 : Nat) - 1 : Int) = l.length := by rw [IntWalk.i64_in] <;> omega
  go_wp2_with fail
  refine UP.out.mono ?_
  rintro e w3 ⟨rfl, l3, h3, q3, hh3, k3⟩
  have H3 := hid h3
  have Q3 := hid (q3.trans HPR.out)
  have HH3 := hid hh3
  have K3 := hid k3
  clear h3 q3 hh3 k3
  go_wp2_with fail
  go_end0
  refine ⟨rfl, v1, l3, H3.out, Q3.out, HH3.out, ?_, P1.out.new⟩
  refine P1.out.kx.tr' K3.out fun b hb e => ?_
  rcases P1.out.new with q | ⟨b', hb', q⟩
  · exact .inr (by rw [← q]; exact e)
  · rw [q] at e; injection e with e; omega
set_option maxHeartbeats 4000000 in
/-- The least comes off the heap. -/
theorem HPop_any {B R : Nat} {w : World} {v : Value} {l : List Nat} (h : Hp B R w v l) (hh : Heap l) (hl : l.length ≤ 900000) (h0 : 0 < l.length) :
    Calls Try.prog 31 #[.iface 55 (.pointer (some ⟨R, 0, none⟩))] w fun e w' => ∃ k v' l', e = .returned (.iface 3 (.int .i64 (k : Nat))) ∧ Hp B R w' v' l' ∧ l.Perm (k :: l') ∧ Heap l' ∧ (∀ x ∈ l', k ≤ x) ∧ Kx (fun b => b = R ∨ v.ownBlock = some b) w w' ∧ v'.ownBlock = v.ownBlock := by
  obtain ⟨n, hn⟩ : ∃ n, l.length = n + 1 := ⟨l.length - 1, by omega⟩
  have mN := find_len h 210
  have LN := hid (Len_any h.own)
  rw [hn] at LN
  have H := hid h
  have HHH := hid hh
  have HNN := hid hn
  have SW := hid (fun W (hX : Hp B R W v l) => Swap_any hX.own 0 n (by omega) (by omega))
  clear h hh
  have e1 : IntKind.i64.wrap ((n + 1 : Nat) - 1 : Int) = n := by rw [IntWalk.i64_in] <;> omega
  go_enter Try.func31, Try.ntmps31
  go_wp2_with fail
  refine LN.out.mono ?_
  rintro e w1 ⟨rfl, rfl⟩
  have mS := find_swap H.out 210
  have S1 := hid (SW.out _ H.out)
  go_wp2_with fail
  refine S1.out.mono ?_
  rintro e w2 ⟨rfl, ho2, k2⟩
  have H2 := hid (H.out.swap ho2 k2)
  have K2 := hid k2
  have DN := hid (down_any H2.out n (dn_pop HHH.out HNN.out) (by rw [sw_length]; omega))
  clear ho2 k2
  go_wp2_with fail
  refine DN.out.mono ?_
  rintro e w3 ⟨hr, l3, h3, q3, hh3, hn3, k3⟩
  obtain ⟨r, rfl⟩ := hr
  have hl3 : l3.length = n + 1 := by rw [q3.length_eq, sw_length]; exact HNN.out
  have et := take_last hl3
  have en : l3.getD n 0 = l.getD 0 0 := by
    rw [hn3, sw_at l (by have := HNN.out; omega) (by have := HNN.out; omega), if_pos rfl]
  rw [en] at et
  have H3 := hid (show Hp B R w3 v (l3.take n ++ [l.getD 0 0]) by rw [← et]; exact h3)
  have HT := hid (take_heap hh3 (by omega))
  have HPE := hid (show l.Perm (l.getD 0 0 :: l3.take n) from ((q3.trans (sw_perm l (by have := HNN.out; omega) (by have := HNN.out; omega))).symm.trans (by rw [← et]) : l.Perm (l3.take n ++ [l.getD 0 0])).trans List.perm_append_comm)
  have HMI := hid (show ∀ x ∈ l3.take n, l.getD 0 0 ≤ x from fun x hx => by
    have hx2 : x ∈ l := HPE.out.mem_iff.2 (List.mem_cons_of_mem _ hx)
    obtain ⟨i, hi, rfl⟩ := List.getElem_of_mem hx2
    have := heap_min HHH.out i hi
    rwa [show l.getD i 0 = l[i] by simp [hi]] at this)
  have K3 := hid k3
  have mP := find_pop (R := R) w3 210
  have PO := hid (Pop0_any H3.out (by rw [List.length_take]; omega))
  clear h3 q3 hh3 hn3 k3 et en hl3
  generalize l.getD 0 0 = z at *
  go_wp2_with fail
  refine PO.out.mono ?_
  rintro e w4 ⟨rfl, v4, h4, hv4, k4⟩
  have H4 := hid h4
  have K4 := hid (And.intro hv4 k4)
  clear h4 k4 hv4
  go_wp2_with fail
  go_ret
  exact ⟨_, v4, _, rfl, H4.out, HPE.out, HT.out, HMI.out, ((K2.out.tr K3.out).mono (fun b _ e => .inr e)).tr (K4.out.2.mono fun b _ e => .inl e), K4.out.1⟩
end Go.Proofs.Ytkpmkabddhpojaa.Or
