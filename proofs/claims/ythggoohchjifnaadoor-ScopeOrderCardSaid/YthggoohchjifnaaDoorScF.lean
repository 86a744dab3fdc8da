/- Layer 9: a scope by what it tells; contracts of Len, of within at no scope, and of With against within. -/
import Derived.Test.YthggoohchjifnaaDoorScC
import Derived.Test.YthggoohchjifnaaDoorScE
set_option linter.unusedVariables false
set_option linter.unusedSimpArgs false
namespace Go.Proofs.YthggoohchjifnaaDoor.Sc
open Go Go.Proofs.YthggoohchjifnaaDoor Go.Proofs.YthggoohchjifnaaDoor.Utf Go.Proofs.YthggoohchjifnaaDoor.Names Go.RowKit
set_option maxRecDepth 100000

theorem Rise.nodup {l : List (List UInt8)} (h : Rise l) : l.Nodup := List.Pairwise.imp (fun h => less_ne h) h

/-- A scope of the names N. -/
structure ScAt (w : World) (p : Option Addr) (N : List (List UInt8)) : Prop where
  is : ∃ ls, IsSc (· < w.heap.size) w p ls ∧ (∀ l ∈ ls, Rise l) ∧ ls.flatten.Perm N
  rise : Rise N
  right : ∀ z ∈ N, rightB z = true
  short : ∀ z ∈ N, z.length ≤ 100000
  few : N.length ≤ 4096
theorem ScAt.none (w : World) : ScAt w none [] := ⟨⟨[], rfl, by simp, by simp⟩, by simp [Rise], by simp, by simp, by simp⟩
theorem ScAt.later {w W : World} {p : Option Addr} {N : List (List UInt8)} (h : ScAt w p N) (hb : Below w.heap.size w W) : ScAt W p N := by
  obtain ⟨⟨ls, h1, h2, h3⟩, r⟩ := h
  exact ⟨⟨ls, h1.later hb, h2, h3⟩, r, by assumption, by assumption, by assumption⟩
theorem ScAt.nil_of {w : World} {N : List (List UInt8)} (h : ScAt w Option.none N) : N = [] := by
  obtain ⟨⟨ls, h1, h2, h3⟩, _⟩ := h
  have := h1.none
  subst this
  simpa using h3.symm.eq_nil

theorem SHas_any (p : Option Addr) (N : List (List UInt8)) (x : List UInt8) (w : World) (h : ScAt w p N) :
    Calls Tryd.prog 20 #[.pointer p, .string (text x)] w fun e w' => e = .returned (.bool (decide (x ∈ N))) ∧ ∃ q, w' = w.drewN q := by
  obtain ⟨⟨ls, h1, h2, h3⟩, _⟩ := h
  have := Has_any p ls x w h1 h2
  rw [show decide (x ∈ ls.flatten) = decide (x ∈ N) from decide_eq_decide.2 h3.mem_iff] at this
  exact this
theorem SLongest_any (p : Option Addr) (N : List (List UInt8)) (u : Value) (ws : List (List UInt8)) (w : World) (h : ScAt w p N) (hu : Strs w u ws) (hb : (said ws).length ≤ 1000000000) :
    Calls Tryd.prog 18 #[.pointer p, u] w fun e w' => e = .returned (.tuple #[.string (text (said (ws.take (longN N ws ws.length)))), .int .i64 (longN N ws ws.length)]) ∧ Below w.heap.size w w' := by
  obtain ⟨⟨ls, h1, h2, h3⟩, _⟩ := h
  have := Longest_any p ls u ws w h1 h2 hu hb
  rw [longN_same (m := N) (fun z => h3.mem_iff) ws ws.length] at this
  exact this
theorem Len_any (p : Option Addr) (ls : List (List (List UInt8))) {D : Nat → Prop} (w : World) (h : IsSc D w p ls) :
    Calls Tryd.prog 17 #[.pointer p] w fun e w' => e = .returned (.int .i64 ls.flatten.length) ∧ w' = w := by
  cases ls with
  | nil =>
    obtain rfl : p = Option.none := h
    go_enter Tryd.func17, Tryd.ntmps17
    go_wp2
    go_ret
    exact ⟨rfl, rfl⟩
  | cons l ls =>
    obtain ⟨b, po, v, rfl, hb, c0, c1, c2, hv, hn⟩ := h
    clear hv hn c0 c1
    generalize (l :: ls).flatten.length = n at *
    go_enter Tryd.func17, Tryd.ntmps17
    go_wp2
    go_ret
    exact ⟨rfl, rfl⟩
theorem SLen_any (p : Option Addr) (N : List (List UInt8)) (w : World) (h : ScAt w p N) :
    Calls Tryd.prog 17 #[.pointer p] w fun e w' => e = .returned (.int .i64 N.length) ∧ w' = w := by
  obtain ⟨⟨ls, h1, h2, h3⟩, _⟩ := h
  have := Len_any p ls w h1
  rw [h3.length_eq] at this
  exact this

/-- A scope that is made anew. -/
theorem mk_sc {w : World} {po : Option Addr} {ls : List (List (List UInt8))} {v : Value} {own : List (List UInt8)} {n : Int} (h : IsSc (· < w.heap.size) w po ls) (hv : Strs w v own) (hn : n = ((own :: ls).flatten.length : Nat)) :
    IsSc (· < (w.alloc (.cells #[.pointer po, v, .int .i64 n] 57)).heap.size) (w.alloc (.cells #[.pointer po, v, .int .i64 n] 57)) (some ⟨w.heap.size, 0, none⟩) (own :: ls) := by
  have hb : Below w.heap.size w (w.alloc (.cells #[.pointer po, v, .int .i64 n] 57)) := (Below.refl _ w).alloc (Nat.le_refl _) _
  have hk := World.alloc_heap_new w (.cells #[.pointer po, v, .int .i64 n] 57)
  refine ⟨w.heap.size, po, v, rfl, by simp, by rw [Lib.cell_of_heap hk]; rfl, by rw [Lib.cell_of_heap hk]; rfl, by rw [Lib.cell_of_heap hk, hn]; rfl, ?_, h.later hb⟩
  exact ((StrsD.lt (D := fun _ => True) hv).same (same_below hb)).mono fun b hb' => Nat.lt_of_lt_of_le hb' hb.size

/-- What within must tell. -/
def WithinOk (p : Option Addr) (ls : List (List (List UInt8))) (v : Value) (own : List (List UInt8)) (w : World) : Prop :=
  Calls Tryd.prog 30 #[.pointer p, v] w fun e w' => ∃ b, e = .returned (.pointer (some ⟨b, 0, none⟩)) ∧ (∃ ls', IsSc (· < w'.heap.size) w' (some ⟨b, 0, none⟩) ls' ∧ (∀ l ∈ ls', Rise l) ∧ ls'.flatten.Perm (ls.flatten ++ own)) ∧ Below w.heap.size w w'

set_option maxHeartbeats 1000000 in
theorem within_nil (v : Value) (own : List (List UInt8)) (w : World) (hv : Strs w v own) (hr : Rise own) (hn : own.length ≤ 4096) : WithinOk none [] v own w := by
  have hlen := fun W => hv.len (P := Tryd.prog) 22 3 9 Tryd.underlying22 W
  have HC := hid (Clone_any v own w hv (by omega))
  have HL := hid (Len_any none [] (D := (· < w.heap.size)) w rfl)
  have HR := hid hr
  unfold WithinOk
  clear hv hr
  go_enter Tryd.func30, Tryd.ntmps30
  go_wp2_with (go_at_call 17; refine HL.out.mono ?_; rintro e w1 ⟨rfl, rfl⟩)
  go_loopg [0, 1] 0 (fun _ s0 s1 wr => s0 = .pointer none ∧ s1 = v ∧ w1 = wr)
  case atStart => exact ⟨rfl, rfl, rfl⟩
  case round =>
    obtain ⟨rfl, rfl, rfl⟩ := hrel
    go_wp2_with fail
    refine HC.out.mono ?_
    rintro e w2 ⟨v', rfl, ho, hb⟩
    have hs : Strs w2 v' own := ho.strs (by omega)
    obtain ⟨a, n, c, rfl⟩ : ∃ a n c, v' = .slice a n c := by
      obtain ⟨⟨a, c, e, _⟩, _⟩ := hs
      exact ⟨a, _, c, e⟩
    have HS := hid hs
    have HB := hid hb
    clear ho hs hb
    go_wp2
    go_ret
    refine ⟨_, rfl, ⟨[own], mk_sc (po := none) (ls := []) (own := own) rfl HS.out (by simp), by simpa using HR.out, by simp⟩, HB.out.alloc HB.out.size _⟩

/-- What With tells. -/
def GotSc (N l : List (List UInt8)) (w : World) (p : Option Addr) (er : Int) : Prop :=
  (er = 6 ∧ p = none ∧ l.all rightB = false) ∨ (er = 19 ∧ p = none ∧ l.all rightB = true ∧ 4096 < (put N l).length) ∨
  (er = 0 ∧ (∃ b, p = some ⟨b, 0, none⟩) ∧ l.all rightB = true ∧ (put N l).length ≤ 4096 ∧ ScAt w p (put N l))

theorem put_perm {N l : List (List UInt8)} (h : Rise N) : (put N l).Perm (N ++ (norm l).filter fun x => !decide (x ∈ N)) := by
  obtain ⟨n1, n2, n3⟩ := norm_facts l
  refine (List.perm_ext_iff_of_nodup (put_rise l h).nodup ?_).2 fun z => ?_
  · refine List.nodup_append.2 ⟨h.nodup, (rise_filter n1 _).nodup, fun a ha b hb e => ?_⟩
    subst e
    have := (List.mem_filter.1 hb).2
    simp [ha] at this
  · rw [put_mem, List.mem_append, List.mem_filter, n2]
    by_cases hz : z ∈ N
    · simp [hz]
    · simp [hz]
theorem any_wrong {N l : List (List UInt8)} (hN : ∀ z ∈ N, rightB z = true) : ((norm l).filter fun x => !decide (x ∈ N)).any (fun x => !rightB x) = !(l.all rightB) := by
  obtain ⟨n1, n2, n3⟩ := norm_facts l
  rw [Bool.eq_iff_iff, List.any_eq_true, Bool.not_eq_true', List.all_eq_false]
  constructor
  · rintro ⟨x, hx, h⟩
    exact ⟨x, (n2 x).1 (List.mem_filter.1 hx).1, by simpa using h⟩
  · rintro ⟨x, hx, h⟩
    refine ⟨x, List.mem_filter.2 ⟨(n2 x).2 hx, ?_⟩, by simpa using h⟩
    have : x ∉ N := fun hm => h (hN x hm)
    simp [this]

set_option maxHeartbeats 4000000 in
theorem With_of (p : Option Addr) (N : List (List UInt8)) (v : Value) (l : List (List UInt8)) (w : World) (h : ScAt w p N) (hv : Strs w v l) (hl : l.length ≤ 1000000) (hx : ∀ x ∈ l, x.length ≤ 100000)
    (hwi : ∀ ls own v W, IsSc (· < W.heap.size) W p ls → (∀ l ∈ ls, Rise l) → (ls.flatten ++ own).Nodup → (ls.flatten ++ own).length ≤ 4096 → Rise own → Strs W v own → WithinOk p ls v own W) :
    Calls Tryd.prog 14 #[.pointer p, v] w fun e w' => ∃ po er, e = .returned (.tuple #[.pointer po, .int .i64 er]) ∧ GotSc N l w' po er ∧ Below w.heap.size w w' := by
  obtain ⟨⟨ls, h1, h2, h3⟩, hrise, hright, hshort, hfew⟩ := h
  obtain ⟨n1, n2, n3⟩ := norm_facts l
  obtain ⟨M, hM⟩ : ∃ M, ((norm l).filter fun x => !decide (x ∈ ls.flatten)) = M := ⟨_, rfl⟩
  have hMN : M = (norm l).filter fun x => !decide (x ∈ N) := by
    rw [← hM]
    exact List.filter_congr fun x _ => by rw [decide_eq_decide.2 h3.mem_iff]
  have hMl : M.length ≤ 1000000 := by rw [← hM]; exact Nat.le_trans (List.length_filter_le _ _) (by omega)
  have hMx : ∀ x ∈ M, x ∈ l := fun x hx => by rw [← hM] at hx; exact (n2 x).1 (List.mem_filter.1 hx).1
  have hMr : Rise M := by rw [← hM]; exact rise_filter n1 _
  have hany := any_wrong (N := N) (l := l) hright
  rw [← hMN] at hany
  have hperm := put_perm (N := N) (l := l) hrise
  rw [← hMN] at hperm
  have hcount : (put N l).length = ls.flatten.length + M.length := by rw [hperm.length_eq, List.length_append, h3.length_eq]
  have HP := hid (And.intro hperm hcount)
  have HA := hid hany
  have HM := hid (And.intro hMl (And.intro hMx hMr))
  have HE := hid hM
  have HS := hid (And.intro h1 (And.intro h2 h3))
  have HN := hid (And.intro hrise (And.intro hright (And.intro hshort hfew)))
  have HV := hid hv
  have HX := hid hx
  have HW := hid hwi
  have HL := hid hl
  have HF := hid (And.intro n1 n3)
  have HR := hid (show (norm l) = Lib.compactUpTo (srt l).toArray (srt l).length from rfl)
  clear h1 h2 h3 hrise hright hshort hfew n1 n2 n3 hM hMN hMl hMx hMr hany hperm hcount hv hx hwi hl
  go_enter Tryd.func14, Tryd.ntmps14
  go_wp2_with fail
  refine (Clone_any v l w HV.out HL.out).mono ?_
  rintro e w1 ⟨v1, rfl, ho1, hb1⟩
  have HO1 := hid ho1
  have HB1 := hid hb1
  clear ho1 hb1
  go_wp2_with fail
  refine (Sort_own v1 l w1 HO1.out HL.out).mono ?_
  rintro e w2 ⟨rfl, ho2, hb2⟩
  have HO2 := hid ho2
  have HB2 := hid (HB1.out.trans hb2)
  clear ho2 hb2
  go_wp2_with fail
  refine (Compact_own v1 (srt l) w2 HO2.out (by rw [srt_length]; exact HL.out)).mono ?_
  rintro e w3 ⟨v3, rfl, ho3, hb3⟩
  rw [← HR.out] at ho3
  have HO3 := hid ho3
  have HB3 := hid (HB2.out.trans hb3)
  clear ho3 hb3
  go_wp2_with fail
  refine (DeleteFunc_has p ls v3 (norm l) w3 (HS.out.1.same (same_below HB3.out)) HS.out.2.1 HO3.out (Nat.le_trans HF.out.2 HL.out)).mono ?_
  rintro e w4 ⟨v4, rfl, ho4, hb4⟩
  rw [HE.out] at ho4
  have HB4 := hid (HB3.out.trans hb4)
  have hs4 : Strs w4 v4 M := ho4.strs (by have := HM.out.1; omega)
  have HS4 := hid hs4
  have hlen := fun W => hs4.len (P := Tryd.prog) 22 3 9 Tryd.underlying22 W
  clear ho4 hb4 hs4
  go_wp2_with fail
  refine (ContainsFunc_wrong v4 M w4 HS4.out (fun x hx => HX.out x (HM.out.2.1 x hx))).mono ?_
  rintro e w5 ⟨rfl, hb5⟩
  have HB5 := hid (HB4.out.trans (hb5.mono HB4.out.size))
  have HS5 := hid (HS4.out.below hb5 (Nat.le_refl _))
  rw [HA.out]
  clear hb5
  cases hall : l.all rightB
  · have HALL := hid hall
    clear hall
    go_wp2
    go_ret2
    exact ⟨none, 6, rfl, .inl ⟨rfl, rfl, HALL.out⟩, HB5.out⟩
  · have HALL := hid hall
    clear hall
    have hsc5 := HS.out.1.same (same_below HB5.out)
    have HSC5 := hid hsc5
    have hf1 : ls.flatten.length ≤ 4096 := by rw [HS.out.2.2.length_eq]; exact HN.out.2.2.2
    have hm1 : M.length ≤ 1000000 := HM.out.1
    clear hsc5
    go_wp2_with fail
    refine (Len_any p ls w5 HSC5.out).mono ?_
    rintro e w6 ⟨rfl, rfl⟩
    by_cases hbig : 4096 < ls.flatten.length + M.length
    · have hbz : (4096 : Int) < (ls.flatten.length : Int) + (M.length : Int) := by omega
      have HBIG := hid hbig
      generalize ls.flatten.length = fl at *
      clear hbig
      go_wp2
      go_ret2
      exact ⟨none, 19, rfl, .inr (.inl ⟨rfl, rfl, HALL.out, by rw [HP.out.2]; exact HBIG.out⟩), HB5.out⟩
    · have hbz : ¬ (4096 : Int) < (ls.flatten.length : Int) + (M.length : Int) := by omega
      have HBIG := hid hbig
      have hnd : (ls.flatten ++ M).Nodup := by
        have h5 := (put_rise l HN.out.1).nodup
        refine List.Perm.nodup ?_ h5
        exact HP.out.1.trans (HS.out.2.2.symm.append_right M)
      have HWI := hid (HW.out ls M v4 w6 ((HSC5.out).mono fun b hb => Nat.lt_of_lt_of_le hb HB5.out.size) HS.out.2.1 hnd (by rw [List.length_append]; omega) HM.out.2.2 HS5.out)
      generalize ls.flatten.length = fl at *
      clear hbig hnd
      go_wp2_with fail
      refine HWI.out.mono ?_
      rintro e w7 ⟨b, rfl, hls', hb7⟩
      have HLS := hid hls'
      have HB7 := hid (HB5.out.trans (hb7.mono HB5.out.size))
      clear hls' hb7
      go_wp2
      go_ret2
      refine ⟨some ⟨b, 0, none⟩, 0, rfl, .inr (.inr ⟨rfl, ⟨b, rfl⟩, HALL.out, by rw [HP.out.2]; omega, ?_⟩), HB7.out⟩
      obtain ⟨ls', g1, g2, g3⟩ := HLS.out
      refine ⟨⟨ls', g1, g2, g3.trans ((HS.out.2.2.append_right M).trans HP.out.1.symm)⟩, put_rise l HN.out.1, fun z hz => ?_, fun z hz => ?_, by rw [HP.out.2]; omega⟩
      · rcases (put_mem l N z).1 hz with h | h
        · exact HN.out.2.1 z h
        · exact List.all_eq_true.1 HALL.out z h
      · rcases (put_mem l N z).1 hz with h | h
        · exact HN.out.2.2.1 z h
        · exact HX.out z h

theorem With_nil (v : Value) (l : List (List UInt8)) (w : World) (hv : Strs w v l) (hl : l.length ≤ 1000000) (hx : ∀ x ∈ l, x.length ≤ 100000) :
    Calls Tryd.prog 14 #[.pointer none, v] w fun e w' => ∃ po er, e = .returned (.tuple #[.pointer po, .int .i64 er]) ∧ GotSc [] l w' po er ∧ Below w.heap.size w w' :=
  With_of none [] v l w (ScAt.none w) hv hl hx fun ls own v W h1 h2 h3 h4 h5 h6 => by
    obtain rfl := h1.none
    exact within_nil v own W h6 h5 (by simpa using h4)
set_option maxHeartbeats 1000000 in
theorem New_any (v : Value) (l : List (List UInt8)) (w : World) (hv : Strs w v l) (hl : l.length ≤ 1000000) (hx : ∀ x ∈ l, x.length ≤ 100000) :
    Calls Tryd.prog 12 #[v] w fun e w' => ∃ po er, e = .returned (.tuple #[.pointer po, .int .i64 er]) ∧ GotSc [] l w' po er ∧ Below w.heap.size w w' := by
  have H := hid (With_nil v l w hv hl hx)
  clear hv
  go_enter Tryd.func12, Tryd.ntmps12
  go_wp2_with fail
  refine H.out.mono ?_
  rintro e w1 ⟨po, er, rfl, hg, hb⟩
  have HG := hid hg
  clear hg
  go_wp2
  go_ret2
  exact ⟨po, er, rfl, HG.out, hb⟩
end Go.Proofs.YthggoohchjifnaaDoor.Sc
