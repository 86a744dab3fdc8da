/- Layer 11: walk of FeelprintPrecedes. -/
import Derived.Test.YtkmdclfkmmlloaaGreatDoorXbR
import Derived.Test.YtkmdclfkmmlloaaGreatDoorXbP
import Derived.BigQuiet
import Derived.Deep.RegionHeld3
set_option linter.unusedVariables false
set_option linter.unusedSimpArgs false
namespace Go.Proofs.YtkmdclfkmmlloaaGreatDoor.Fp
open Go Go.Proofs.YtkmdclfkmmlloaaGreatDoor Go.Proofs.YtkmdclfkmmlloaaGreatDoor.Xp Go.RowKit
set_option maxRecDepth 100000

def leftE (s t : Nam) : Ex := .mk 5 t [] [.mk 5 s [] [.mk 0 [49] [] [], .mk 0 [50] [] []], .mk 0 [51] [] []]
def rightE (s t : Nam) : Ex := .mk 5 t [] [.mk 0 [49] [] [], .mk 5 s [] [.mk 0 [50] [] [], .mk 0 [51] [] []]]
def wantA (s t : Nam) : List UInt8 := if levS s < levS t ∨ (levS s = 3 ∧ levS t = 3) then [40, 49, 32] ++ s ++ [32, 50, 41, 32] ++ t ++ [32, 51] else [49, 32] ++ s ++ [32, 50, 32] ++ t ++ [32, 51]
def wantB (s t : Nam) : List UInt8 := if levS s ≤ levS t then [49, 32] ++ t ++ [32, 40, 50, 32] ++ s ++ [32, 51, 41] else [49, 32] ++ t ++ [32, 50, 32] ++ s ++ [32, 51]
set_option maxHeartbeats 4000000 in
theorem says : ∀ s ∈ bins, ∀ t ∈ bins, (checkV (leftE s t) = 0 ∧ prV 0 (leftE s t) = wantA s t) ∧ (checkV (rightE s t) = 0 ∧ prV 0 (rightE s t) = wantB s t) := by decide +kernel
theorem two_fit (s t : Nam) : (leftE s t).fit ∧ (rightE s t).fit := by
  constructor
  · simp [leftE, Ex.fit, fitL]; decide
  · simp [rightE, Ex.fit, fitL]; decide
theorem two_mass {s t : Nam} (hs : s ∈ bins) (ht : t ∈ bins) : (leftE s t).mass ≤ 70000 ∧ (rightE s t).mass ≤ 70000 := by
  have h1 := bins_len s hs
  have h2 := bins_len t ht
  constructor
  · simp [leftE, Ex.mass, massL, namesMass]; omega
  · simp [rightE, Ex.mass, massL, namesMass]; omega
theorem levs : ∀ i, (h : i < bins.length) → ([1, 2, 3, 3, 3, 3, 3, 3, 4, 4, 5, 5, 6] : List Nat)[i]? = some (levS bins[i]) := by decide +kernel
def intsOf (l : List Nat) : List Value := l.map fun (n : Nat) => Value.int .i64 (n : Int)
def levsL : List Nat := [1, 2, 3, 3, 3, 3, 3, 3, 4, 4, 5, 5, 6]
theorem at_ints {w : World} {v : Value} {l : List Nat} (h : Row 1 w v l.length (intsOf l)) (i n : Nat) (hn : l[i]? = some n) :
    ∃ b o, (∀ k W, (Instr.indexAt 44 v (.int k i)).run Tryz.prog W = .ok (.pointer (some ⟨b, o, none⟩)) W) ∧ w.cell? ⟨b, o, none⟩ = some (.int .i64 n) := by
  obtain ⟨hi, _⟩ := List.getElem?_eq_some_iff.1 hn
  obtain ⟨b, o, a1, a2⟩ := Row.at h (by omega) i hi 44 3 Tryz.underlying44 (fun W => Tryz.sizeOf3 W)
  refine ⟨b, o, a1, ?_⟩
  have := a2 0 (.int .i64 n) (by omega) (by simp [intsOf, hn])
  simpa using this
theorem both_at {U : World} {v u : Value} (h : Strs U v bins) (g : Row 1 U u levsL.length (intsOf levsL)) (i : Nat) (hi : i < 13) :
    ∃ s b o b' o', s ∈ bins ∧ (∀ k W, (Instr.indexAt 22 v (.int k i)).run Tryz.prog W = .ok (.pointer (some ⟨b, o, none⟩)) W) ∧ U.cell? ⟨b, o, none⟩ = some (.string (text s)) ∧ (∀ k W, (Instr.indexAt 44 u (.int k i)).run Tryz.prog W = .ok (.pointer (some ⟨b', o', none⟩)) W) ∧ U.cell? ⟨b', o', none⟩ = some (.int .i64 (levS s)) := by
  have hlb : bins.length = 13 := rfl
  obtain ⟨b1, o1, i1, c1⟩ := h.at (P := Tryz.prog) i (by omega) 22 9 undS sizS
  obtain ⟨b2, o2, i2, c2⟩ := at_ints g i _ (levs i (by omega))
  exact ⟨_, b1, o1, b2, o2, List.getElem_mem _, i1, c1, i2, c2⟩
theorem bdQ {B : Nat} {V w : World} (h : Below B V w) (q : Nat) : Below B V (w.drewN q) := ⟨h.os, h.tape, h.output, h.size, h.block⟩
theorem keepC {X Y : World} {p : Addr} {v : Value} (hb : Below X.heap.size X Y) (h : X.cell? p = some v) : Y.cell? p = some v := (hb.cell (p := p) (World.block_lt_of_cell? X p h)).trans h
theorem five (A B C : Array UInt8) (s t : List UInt8) (hs : s.length ≤ 3) (ht : t.length ≤ 3) (hA : A.size ≤ 10) (hB : B.size ≤ 10) (hC : C.size ≤ 10) :
    ∃ q0 q1 q2 q3, ((⟨A⟩ : ByteArray) ++ text s = text q0 ∧ (⟨A⟩ : ByteArray).size + (text s).size ≤ 9223372036854775807) ∧ (text q0 ++ (⟨B⟩ : ByteArray) = text q1 ∧ (text q0).size + (⟨B⟩ : ByteArray).size ≤ 9223372036854775807) ∧ (text q1 ++ text t = text q2 ∧ (text q1).size + (text t).size ≤ 9223372036854775807) ∧ (text q2 ++ (⟨C⟩ : ByteArray) = text q3 ∧ (text q2).size + (⟨C⟩ : ByteArray).size ≤ 9223372036854775807) ∧ q3 = A.toList ++ s ++ B.toList ++ t ++ C.toList := by
  have eA : (⟨A⟩ : ByteArray) = text A.toList := by simp [text]
  have eB : (⟨B⟩ : ByteArray) = text B.toList := by simp [text]
  have eC : (⟨C⟩ : ByteArray) = text C.toList := by simp [text]
  have hA' : A.toList.length = A.size := rfl
  have hB' : B.toList.length = B.size := rfl
  have hC' : C.toList.length = C.size := rfl
  refine ⟨_, _, _, _, ⟨by rw [eA, Names.text_append], ?_⟩, ⟨by rw [eB, Names.text_append], ?_⟩, ⟨by rw [Names.text_append], ?_⟩, ⟨by rw [eC, Names.text_append], ?_⟩, rfl⟩
  · rw [eA, text_size, text_size]; omega
  · rw [eB, text_size, text_size, List.length_append]; omega
  · rw [text_size, text_size, List.length_append, List.length_append]; omega
  · rw [eC, text_size, text_size, List.length_append, List.length_append, List.length_append]; omega
set_option maxHeartbeats 64000000 in
theorem FeelprintPrecedes_walk (a b : Int) (ha : 0 ≤ a ∧ a ≤ 255) (hb : 0 ≤ b ∧ b ≤ 255) (w : World) (hw : Num.Fit w) :
    Calls Tryz.prog 6 #[.int .u8 a, .int .u8 b] w fun r w' => r = .returned (.bool true) ∧ Below w.heap.size w w' := by
  have hlb : bins.length = 13 := rfl
  obtain ⟨V, hV⟩ : ∃ V, w.alloc (.cells #[.string ⟨#[111, 114]⟩, .string ⟨#[97, 110, 100]⟩, .string ⟨#[61]⟩, .string ⟨#[33, 61]⟩, .string ⟨#[60]⟩, .string ⟨#[60, 61]⟩, .string ⟨#[62]⟩, .string ⟨#[62, 61]⟩, .string ⟨#[43]⟩, .string ⟨#[45]⟩, .string ⟨#[42]⟩, .string ⟨#[47]⟩, .string ⟨#[42, 42]⟩] 9) = V := ⟨_, rfl⟩
  have BV : Below w.heap.size w V := hV ▸ ba (b0 w) _
  have zV : V.heap.size = w.heap.size + 1 := by rw [← hV]; simp
  have hS : Strs V (.slice (some ⟨w.heap.size, 0, none⟩) 13 13) bins := by
    have := Row.ofBuild (sz := 1) w (strsOf bins).toArray 9 13 rfl (by omega)
    rw [← hV]
    unfold Strs
    exact this
  obtain ⟨U, hU⟩ : ∃ U, V.alloc (.cells #[.int .i64 1, .int .i64 2, .int .i64 3, .int .i64 3, .int .i64 3, .int .i64 3, .int .i64 3, .int .i64 3, .int .i64 4, .int .i64 4, .int .i64 5, .int .i64 5, .int .i64 6] 3) = U := ⟨_, rfl⟩
  have BU : Below V.heap.size V U := hU ▸ ba (b0 V) _
  have hL : Row 1 U (.slice (some ⟨V.heap.size, 0, none⟩) 13 13) levsL.length (intsOf levsL) := by
    have := Row.ofBuild (sz := 1) V (intsOf levsL).toArray 3 13 rfl (by omega)
    rw [← hU]
    exact this
  obtain ⟨i, hi⟩ : ∃ i : Nat, a % 13 = i := ⟨(a % 13).toNat, by omega⟩
  obtain ⟨k, hk⟩ : ∃ k : Nat, b % 13 = k := ⟨(b % 13).toNat, by omega⟩
  have hi13 : i < 13 := by omega
  have hk13 : k < 13 := by omega
  have hta : a.tmod 13 = i := by rw [Int.tmod_eq_emod_of_nonneg ha.1]; exact hi
  have htb : b.tmod 13 = k := by rw [Int.tmod_eq_emod_of_nonneg hb.1]; exact hk
  have hSU := hS.below BU (Nat.le_refl _)
  obtain ⟨s, b1, o1, b3, o3, hsb, i1, c1, i3, c3⟩ := both_at hSU hL i hi13
  obtain ⟨t, b2, o2, b4, o4, htb2, i2, c2, i4, c4⟩ := both_at hSU hL k hk13
  obtain ⟨⟨k1, k2⟩, k3, k4⟩ := says s hsb t htb2
  have hls := bins_len s hsb
  have hlt := bins_len t htb2
  have WL : Hid (writeV 0 (leftE s t) = .tuple #[.string (text (wantA s t)), .int .i64 0]) := hid (by unfold writeV; rw [if_pos k1, k1, k2])
  have WR : Hid (writeV 0 (rightE s t) = .tuple #[.string (text (wantB s t)), .int .i64 0]) := hid (by unfold writeV; rw [if_pos k3, k3, k4])
  obtain ⟨m1, m2⟩ := two_mass hsb htb2
  have HUW := hid (show Below w.heap.size w U from BV.trans (BU.mono BV.size))
  have HW := hid hw
  have HC1 := hid c1
  have HC2 := hid c2
  have HC3 := hid c3
  have HC4 := hid c4
  -- the closures and Print, whatever the world
  have NA : Hid (∀ X, Calls Tryz.prog 17 #[.string ⟨#[49]⟩] X fun e w' => e = .returned (.agg #[.int .i64 0, .string ⟨#[49]⟩, .slice none 0 0, .slice none 0 0]) ∧ Below X.heap.size X w') := hid (fun X => num1_any [49] X)
  have NB : Hid (∀ X, Calls Tryz.prog 17 #[.string ⟨#[50]⟩] X fun e w' => e = .returned (.agg #[.int .i64 0, .string ⟨#[50]⟩, .slice none 0 0, .slice none 0 0]) ∧ Below X.heap.size X w') := hid (fun X => num1_any [50] X)
  have NC : Hid (∀ X, Calls Tryz.prog 17 #[.string ⟨#[51]⟩] X fun e w' => e = .returned (.agg #[.int .i64 0, .string ⟨#[51]⟩, .slice none 0 0, .slice none 0 0]) ∧ Below X.heap.size X w') := hid (fun X => num1_any [51] X)
  have BL1 : Hid (∀ (X : World), Calls Tryz.prog 18 #[.string (text s), .agg #[.int .i64 0, .string ⟨#[49]⟩, .slice none 0 0, .slice none 0 0], .agg #[.int .i64 0, .string ⟨#[50]⟩, .slice none 0 0, .slice none 0 0]] X fun e w' => ∃ g, e = .returned (.agg #[.int .i64 5, .string (text s), .slice none 0 0, .slice (some ⟨g, 0, none⟩) 2 2]) ∧ IsE w' (.mk 5 s [] [.mk 0 [49] [] [], .mk 0 [50] [] []]) (.slice none 0 0) (.slice (some ⟨g, 0, none⟩) 2 2) ∧ Below X.heap.size X w') := hid (fun X => bin1_any s (.mk 0 [49] [] []) (.mk 0 [50] [] []) none 0 0 none 0 0 none 0 0 none 0 0 X (num_is X 0 [49]) (num_is X 0 [50]))
  have BL2 : Hid (∀ (X : World) (h : Nat) (hI : IsE X (.mk 5 s [] [.mk 0 [49] [] [], .mk 0 [50] [] []]) (.slice none 0 0) (.slice (some ⟨h, 0, none⟩) 2 2)), Calls Tryz.prog 18 #[.string (text t), .agg #[.int .i64 5, .string (text s), .slice none 0 0, .slice (some ⟨h, 0, none⟩) 2 2], .agg #[.int .i64 0, .string ⟨#[51]⟩, .slice none 0 0, .slice none 0 0]] X fun e w' => ∃ g, e = .returned (.agg #[.int .i64 5, .string (text t), .slice none 0 0, .slice (some ⟨g, 0, none⟩) 2 2]) ∧ IsE w' (leftE s t) (.slice none 0 0) (.slice (some ⟨g, 0, none⟩) 2 2) ∧ Below X.heap.size X w') := hid (fun X h hI => bin1_any t (.mk 5 s [] [.mk 0 [49] [] [], .mk 0 [50] [] []]) (.mk 0 [51] [] []) none 0 0 (some ⟨h, 0, none⟩) 2 2 none 0 0 none 0 0 X hI (num_is X 0 [51]))
  have BR1 : Hid (∀ (X : World), Calls Tryz.prog 18 #[.string (text s), .agg #[.int .i64 0, .string ⟨#[50]⟩, .slice none 0 0, .slice none 0 0], .agg #[.int .i64 0, .string ⟨#[51]⟩, .slice none 0 0, .slice none 0 0]] X fun e w' => ∃ g, e = .returned (.agg #[.int .i64 5, .string (text s), .slice none 0 0, .slice (some ⟨g, 0, none⟩) 2 2]) ∧ IsE w' (.mk 5 s [] [.mk 0 [50] [] [], .mk 0 [51] [] []]) (.slice none 0 0) (.slice (some ⟨g, 0, none⟩) 2 2) ∧ Below X.heap.size X w') := hid (fun X => bin1_any s (.mk 0 [50] [] []) (.mk 0 [51] [] []) none 0 0 none 0 0 none 0 0 none 0 0 X (num_is X 0 [50]) (num_is X 0 [51]))
  have BR2 : Hid (∀ (X : World) (h : Nat) (hI : IsE X (.mk 5 s [] [.mk 0 [50] [] [], .mk 0 [51] [] []]) (.slice none 0 0) (.slice (some ⟨h, 0, none⟩) 2 2)), Calls Tryz.prog 18 #[.string (text t), .agg #[.int .i64 0, .string ⟨#[49]⟩, .slice none 0 0, .slice none 0 0], .agg #[.int .i64 5, .string (text s), .slice none 0 0, .slice (some ⟨h, 0, none⟩) 2 2]] X fun e w' => ∃ g, e = .returned (.agg #[.int .i64 5, .string (text t), .slice none 0 0, .slice (some ⟨g, 0, none⟩) 2 2]) ∧ IsE w' (rightE s t) (.slice none 0 0) (.slice (some ⟨g, 0, none⟩) 2 2) ∧ Below X.heap.size X w') := hid (fun X h hI => bin1_any t (.mk 0 [49] [] []) (.mk 5 s [] [.mk 0 [50] [] [], .mk 0 [51] [] []]) none 0 0 none 0 0 none 0 0 (some ⟨h, 0, none⟩) 2 2 X (num_is X 0 [49]) hI)
  have PL : Hid (∀ (X : World) (h : Nat) (hF : Num.Fit X) (hI : IsE X (leftE s t) (.slice none 0 0) (.slice (some ⟨h, 0, none⟩) 2 2)), Calls Tryz.prog 9 #[.agg #[.int .i64 5, .string (text t), .slice none 0 0, .slice (some ⟨h, 0, none⟩) 2 2]] X fun e w' => e = .returned (.tuple #[.string (text (wantA s t)), .int .i64 0]) ∧ Below X.heap.size X w') := hid (fun X h hF hI => by
    have := Print_any (leftE s t) none 0 0 (some ⟨h, 0, none⟩) 2 2 X hF hI (two_fit s t).1 m1
    rw [WL.out] at this
    exact this)
  have PRR : Hid (∀ (X : World) (h : Nat) (hF : Num.Fit X) (hI : IsE X (rightE s t) (.slice none 0 0) (.slice (some ⟨h, 0, none⟩) 2 2)), Calls Tryz.prog 9 #[.agg #[.int .i64 5, .string (text t), .slice none 0 0, .slice (some ⟨h, 0, none⟩) 2 2]] X fun e w' => e = .returned (.tuple #[.string (text (wantB s t)), .int .i64 0]) ∧ Below X.heap.size X w') := hid (fun X h hF hI => by
    have := Print_any (rightE s t) none 0 0 (some ⟨h, 0, none⟩) 2 2 X hF hI (two_fit s t).2 m2
    rw [WR.out] at this
    exact this)
  have FT := hid (fun (X : World) (hX : Below U.heap.size U X) => (hw.at (show Below w.heap.size w U from BV.trans (BU.mono BV.size))).at hX)
  have AL := hid (fun (X : World) (hX : Below U.heap.size U X) => alive_any X (FT.out X hX))
  have QI : (i : Int) < 13 := by omega
  have QK : (k : Int) < 13 := by omega
  have HQA : Hid (wantA s t = wantA s t) := hid rfl
  clear hw BV zV hS BU hL hSU c1 c2 c3 c4 k1 k2 k3 k4 m1 m2 hi hk WL WR
  go_enter Tryz.func6, Tryz.ntmps6
  have HS := hid (show ∀ X, Below U.heap.size U X → (Below U.heap.size U X ∧ X.cell? ⟨b1, o1, none⟩ = some (.string (text s)) ∧ X.cell? ⟨b2, o2, none⟩ = some (.string (text t))) from fun X hX => ⟨hX, keepC hX HC1.out, keepC hX HC2.out⟩)
  go_wp2_with fail
  go_quiet (fail)
  have H0 := hid (bdQ (b0 U) nq)
  generalize U.drewN nq = U0 at *
  go_upto_region 6 with fail
  go_cut [11, 12] from 29 to 50 (fun x y X => x = .string (text (wantA s t)) ∧ y = .int .i64 0 ∧ Hid (Below U.heap.size U X))
  case first =>
    have HS0 := HS.out U0.drew (bt H0.out (bd1 U0))
    go_wp2_with fail
    go_region_held3 (fun X => (Below U.heap.size U X ∧ X.cell? ⟨b1, o1, none⟩ = some (.string (text s)) ∧ X.cell? ⟨b2, o2, none⟩ = some (.string (text t)))) (first | exact HSx | exact HS0) (first
      | (go_at_call 17
         first
           | with_reducible refine (NA.out _).mono ?_
           | with_reducible refine (NB.out _).mono ?_
           | with_reducible refine (NC.out _).mono ?_
         rintro ev wx ⟨rfl, hb⟩
         first | have HSx := HS.out _ (bt HSx.1 hb) | have HSx := HS.out _ (bt HS0.1 hb)
         try have HI := hid (HI.out.later hb))
      | (go_at_call 18
         first
           | with_reducible refine (BL1.out _).mono ?_
           | with_reducible refine (BL2.out _ _ HI.out).mono ?_
         rintro ev wx ⟨g, rfl, hI, hb⟩
         have HSx := HS.out _ (bt HSx.1 hb)
         have HI := hid hI
         clear hI)
      | (go_at_call 9
         with_reducible refine (PL.out _ _ (FT.out _ HSx.1) HI.out).mono ?_
         rintro ev wx ⟨rfl, hb⟩
         have HSx := HS.out _ (bt HSx.1 hb)))
    go_wp2_with fail
    go_meet
    exact ⟨rfl, rfl, hid HSx.1⟩
  case rest =>
    obtain ⟨rfl, rfl, H1⟩ := hcut
    rename World => U1
    clear H0 BL1 BL2 PL
    go_upto_region 7 with fail
    go_cut [13, 14] from 51 to 72 (fun x y X => x = .string (text (wantB s t)) ∧ y = .int .i64 0 ∧ Hid (Below U.heap.size U X))
    case first =>
      have HS0 := HS.out U1.drew (bt H1.out (bd1 U1))
      go_wp2_with fail
      go_region_held3 (fun X => (Below U.heap.size U X ∧ X.cell? ⟨b1, o1, none⟩ = some (.string (text s)) ∧ X.cell? ⟨b2, o2, none⟩ = some (.string (text t)))) (first | exact HSx | exact HS0) (first
        | (go_at_call 17
           first
             | with_reducible refine (NA.out _).mono ?_
             | with_reducible refine (NB.out _).mono ?_
             | with_reducible refine (NC.out _).mono ?_
           rintro ev wx ⟨rfl, hb⟩
           first | have HSx := HS.out _ (bt HSx.1 hb) | have HSx := HS.out _ (bt HS0.1 hb)
           try have HI := hid (HI.out.later hb))
        | (go_at_call 18
           first
             | with_reducible refine (BR1.out _).mono ?_
             | with_reducible refine (BR2.out _ _ HI.out).mono ?_
           rintro ev wx ⟨g, rfl, hI, hb⟩
           have HSx := HS.out _ (bt HSx.1 hb)
           have HI := hid hI
           clear hI)
        | (go_at_call 9
           with_reducible refine (PRR.out _ _ (FT.out _ HSx.1) HI.out).mono ?_
           rintro ev wx ⟨rfl, hb⟩
           have HSx := HS.out _ (bt HSx.1 hb)))
      go_wp2_with fail
      go_meet
      exact ⟨rfl, rfl, hid HSx.1⟩
    case rest =>
      obtain ⟨rfl, rfl, H2⟩ := hcut
      rename World => U2
      clear H1 NA NB NC BR1 BR2 PRR FT HW
      obtain ⟨_, d1, d2⟩ := HS.out _ H2.out
      have d3 := keepC H2.out HC3.out
      have d4 := keepC H2.out HC4.out
      clear HC1 HC2 HC3 HC4
      obtain ⟨l0, l1, l2, l3, ⟨f0, g0⟩, ⟨f1, g1⟩, ⟨f2, g2⟩, ⟨f3, g3⟩, eL⟩ := five #[49, 32] #[32, 50, 32] #[32, 51] s t hls hlt (by decide) (by decide) (by decide)
      obtain ⟨r0, r1, r2, r3, ⟨f4, g4⟩, ⟨f5, g5⟩, ⟨f6, g6⟩, ⟨f7, g7⟩, eR⟩ := five #[49, 32] #[32, 50, 32] #[32, 51] t s hlt hls (by decide) (by decide) (by decide)
      have EL := hid eL
      have ER := hid eR
      clear eL eR HS
      go_wp2_with fail
      go_quiet (fail)
      have H3 := hid (bdQ H2.out nq)
      replace d1 := keepC (bdQ (b0 U2) nq) d1
      replace d2 := keepC (bdQ (b0 U2) nq) d2
      replace d3 := keepC (bdQ (b0 U2) nq) d3
      replace d4 := keepC (bdQ (b0 U2) nq) d4
      clear H2 f0 f1 f2 f3 f4 f5 f6 f7 g0 g1 g2 g3 g4 g5 g6 g7
      generalize U2.drewN nq = U3 at *
      obtain ⟨p0, p1, p2, p3, ⟨f8, g8⟩, ⟨f9, g9⟩, ⟨fa, ga⟩, ⟨fb, gb⟩, eP⟩ := five #[40, 49, 32] #[32, 50, 41, 32] #[32, 51] s t hls hlt (by decide) (by decide) (by decide)
      obtain ⟨m0, m1, m2, m3, ⟨fc, gc⟩, ⟨fd, gd⟩, ⟨fe, ge⟩, ⟨ff, gf⟩, eM⟩ := five #[49, 32] #[32, 40, 50, 32] #[32, 51, 41] t s hlt hls (by decide) (by decide) (by decide)
      have WA := hid (show wantA s t = if levS s < levS t ∨ (levS s = 3 ∧ levS t = 3) then p3 else l3 from by rw [eP, EL.out]; unfold wantA; simp)
      have WB := hid (show wantB s t = if levS s ≤ levS t then m3 else r3 from by rw [eM, ER.out]; unfold wantB; simp)
      clear eP eM EL ER
      generalize wantA s t = wa at *
      generalize wantB s t = wb at *
      generalize levS s = li at *
      generalize levS t = lk at *
      rcases (show (li < lk) ∨ (li = 3 ∧ lk = 3) ∨ (li = 3 ∧ lk < 3) ∨ (li ≠ 3 ∧ li = lk) ∨ (li ≠ 3 ∧ lk < li) from by omega) with c | ⟨rfl, rfl⟩ | ⟨rfl, c⟩ | ⟨c, rfl⟩ | ⟨c3, c⟩
      · have c1 : (li : Int) < (lk : Int) := by omega
        have c2 : (li : Int) ≤ (lk : Int) := by omega
        obtain rfl : wa = p3 := WA.out.trans (if_pos (.inl c))
        obtain rfl : wb = m3 := WB.out.trans (if_pos (Nat.le_of_lt c))
        clear WA WB
        go_wp2_with fail
        go_quiet (fail)
        go_wp2_with fail
        go_quiet (fail)
        go_wp2_with fail
        go_quiet (fail)
        go_wp2_with fail
        go_quiet (fail)
        go_wp2_with fail
        refine (AL.out _ (bdQ H3.out _)).mono ?_
        rintro r wz ⟨rfl, hz⟩
        have HZ := hid (bt HUW.out (bt (bdQ H3.out _) hz))
        clear hz H3 d1 d2 d3 d4
        go_wp2
        go_ret
        exact ⟨rfl, HZ.out⟩
      · have c1 : True := trivial
        obtain rfl : wa = p3 := WA.out.trans (if_pos (.inr ⟨rfl, rfl⟩))
        obtain rfl : wb = m3 := WB.out.trans (if_pos (Nat.le_refl _))
        clear WA WB
        go_wp2_with fail
        go_quiet (fail)
        go_wp2_with fail
        go_quiet (fail)
        go_wp2_with fail
        go_quiet (fail)
        go_wp2_with fail
        go_quiet (fail)
        go_wp2_with fail
        refine (AL.out _ (bdQ H3.out _)).mono ?_
        rintro r wz ⟨rfl, hz⟩
        have HZ := hid (bt HUW.out (bt (bdQ H3.out _) hz))
        clear hz H3 d1 d2 d3 d4
        go_wp2
        go_ret
        exact ⟨rfl, HZ.out⟩
      · have c1 : ¬ (3 : Int) < (lk : Int) := by omega
        have c2 : ((lk : Int) == 3) = false := by rw [beq_eq_false_iff_ne]; omega
        have c3 : (lk == 3) = false := by rw [beq_eq_false_iff_ne]; omega
        have c4 : ¬ (3 : Int) ≤ (lk : Int) := by omega
        obtain rfl : wa = l3 := WA.out.trans (if_neg (by omega))
        obtain rfl : wb = r3 := WB.out.trans (if_neg (by omega))
        clear WA WB
        go_wp2_with fail
        go_quiet (fail)
        go_wp2_with fail
        go_quiet (fail)
        go_wp2_with fail
        refine (AL.out _ (bdQ H3.out _)).mono ?_
        rintro r wz ⟨rfl, hz⟩
        have HZ := hid (bt HUW.out (bt (bdQ H3.out _) hz))
        clear hz H3 d1 d2 d3 d4
        go_wp2
        go_ret
        exact ⟨rfl, HZ.out⟩
      · have c2 : ((li : Int) == 3) = false := by rw [beq_eq_false_iff_ne]; omega
        have c3 : (li == 3) = false := by rw [beq_eq_false_iff_ne]; omega
        obtain rfl : wa = l3 := WA.out.trans (if_neg (by omega))
        obtain rfl : wb = m3 := WB.out.trans (if_pos (Nat.le_refl _))
        clear WA WB
        go_wp2_with fail
        go_quiet (fail)
        go_wp2_with fail
        go_quiet (fail)
        go_wp2_with fail
        go_quiet (fail)
        go_wp2_with fail
        refine (AL.out _ (bdQ H3.out _)).mono ?_
        rintro r wz ⟨rfl, hz⟩
        have HZ := hid (bt HUW.out (bt (bdQ H3.out _) hz))
        clear hz H3 d1 d2 d3 d4
        go_wp2
        go_ret
        exact ⟨rfl, HZ.out⟩
      · have c1 : ¬ (li : Int) < (lk : Int) := by omega
        have c2 : ((li : Int) == 3) = false := by rw [beq_eq_false_iff_ne]; omega
        have c4 : (li == 3) = false := by rw [beq_eq_false_iff_ne]; omega
        have c5 : ¬ (li : Int) ≤ (lk : Int) := by omega
        have c6 : ¬ li < lk := by omega
        have c7 : ¬ li ≤ lk := by omega
        have c8 : lk ≤ li := by omega
        obtain rfl : wa = l3 := WA.out.trans (if_neg (by omega))
        obtain rfl : wb = r3 := WB.out.trans (if_neg (by omega))
        clear WA WB
        go_wp2_with fail
        go_quiet (fail)
        go_wp2_with fail
        go_quiet (fail)
        go_wp2_with fail
        refine (AL.out _ (bdQ H3.out _)).mono ?_
        rintro r wz ⟨rfl, hz⟩
        have HZ := hid (bt HUW.out (bt (bdQ H3.out _) hz))
        clear hz H3 d1 d2 d3 d4
        go_wp2
        go_ret
        exact ⟨rfl, HZ.out⟩
end Go.Proofs.YtkmdclfkmmlloaaGreatDoor.Fp
