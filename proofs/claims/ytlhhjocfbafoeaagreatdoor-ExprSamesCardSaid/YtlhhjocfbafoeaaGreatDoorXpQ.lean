/- Layer 10: contract of read, a way through an expression with the names that are met. -/
import Derived.Test.YtlhhjocfbafoeaaGreatDoorXpR
import Derived.Test.YtlhhjocfbafoeaaGreatDoorXbX
set_option linter.unusedVariables false
set_option linter.unusedSimpArgs false
namespace Go.Proofs.YtlhhjocfbafoeaaGreatDoor.Xp
open Go Go.Proofs.YtlhhjocfbafoeaaGreatDoor Go.Proofs.YtlhhjocfbafoeaaGreatDoor.Utf Go.Proofs.YtlhhjocfbafoeaaGreatDoor.Names Go.Proofs.YtlhhjocfbafoeaaGreatDoor.Sc Go.RowKit
set_option maxRecDepth 100000

/-- What is in the map ahead of a part. -/
def bag (N : List Nam) (k : Int) (s : Nam) (nm B : List Nam) (i : Nat) : List Nam := ((List.range i).reverse.flatMap fun j => off N (bro k s nm j)) ++ B
/-- What is in it when the first parts' names are left. -/
def bagT (N : List Nam) (k : Int) (s : Nam) (nm B : List Nam) (i m : Nat) : List Nam := ((List.range' i (m - i)).flatMap fun j => off N (bro k s nm j)) ++ B
theorem bag_zero (N : List Nam) (k : Int) (s : Nam) (nm B : List Nam) : bag N k s nm B 0 = B := rfl
theorem bag_succ (N : List Nam) (k : Int) (s : Nam) (nm B : List Nam) (i : Nat) : bag N k s nm B (i + 1) = off N (bro k s nm i) ++ bag N k s nm B i := by
  unfold bag
  rw [List.range_succ, List.reverse_append, List.reverse_singleton, List.singleton_append, List.flatMap_cons, List.append_assoc]
theorem bagT_end (N : List Nam) (k : Int) (s : Nam) (nm B : List Nam) (m : Nat) : bagT N k s nm B m m = B := by simp [bagT]
theorem bagT_succ (N : List Nam) (k : Int) (s : Nam) (nm B : List Nam) {i m : Nat} (h : i < m) : bagT N k s nm B i m = off N (bro k s nm i) ++ bagT N k s nm B (i + 1) m := by
  unfold bagT
  obtain ⟨c, rfl⟩ : ∃ c, m = i + 1 + c := ⟨m - (i + 1), by omega⟩
  rw [show i + 1 + c - i = c + 1 by omega, show i + 1 + c - (i + 1) = c by omega, List.range'_succ, List.flatMap_cons, List.append_assoc]
theorem bag_perm (N : List Nam) (k : Int) (s : Nam) (nm B : List Nam) (m : Nat) : (bag N k s nm B m).Perm (bagT N k s nm B 0 m) := by
  unfold bag bagT
  rw [Nat.sub_zero, ← List.range_eq_range']
  exact (List.Perm.flatMap_right _ (List.reverse_perm _)).append_right B
/-- How many names are brought ahead of a part. -/
def blen (k : Int) (s : Nam) (nm : List Nam) : Nat → Nat
  | 0 => 0
  | i + 1 => blen k s nm i + (bro k s nm i).length
theorem bro_mem {k : Int} {s : Nam} {nm : List Nam} {i : Nat} {x : Nam} (h : x ∈ bro k s nm i) : x = s ∨ x = item ∨ x ∈ nm := by
  unfold bro at h
  split at h
  · split at h
    · exact .inl (by simpa using h)
    · cases h
  · split at h
    · split at h
      · exact .inr (.inl (by simpa using h))
      · cases h
    · split at h
      · split at h
        · exact .inr (.inr h)
        · cases h
      · split at h
        · split at h
          · exact .inr (.inr (List.mem_of_mem_drop (List.mem_of_mem_take h)))
          · cases h
        · cases h
theorem blen_le (k : Int) (s : Nam) (nm : List Nam) (i : Nat) : blen k s nm i ≤ 1 + nm.length := by
  by_cases c12 : k = 12 ∨ k = 13 ∨ k = 14
  · have h : ∀ i, blen k s nm i = if 2 ≤ i then 1 else 0 := by
      intro i
      induction i with
      | zero => rfl
      | succ i ih =>
        rw [blen, ih, bro_for c12]
        by_cases e : i = 1
        · subst e; simp
        · rw [if_neg e]
          by_cases c : 2 ≤ i
          · rw [if_pos c, if_pos (by omega)]; rfl
          · rw [if_neg c, if_neg (by omega)]; rfl
    rw [h]; split <;> omega
  · by_cases c9 : k = 9
    · have h : ∀ i, blen k s nm i = if 2 ≤ i then 1 else 0 := by
        intro i
        induction i with
        | zero => rfl
        | succ i ih =>
          rw [blen, ih]
          have hb : bro k s nm i = if i = 1 then [item] else [] := by unfold bro; rw [if_neg c12, if_pos c9]
          rw [hb]
          by_cases e : i = 1
          · subst e; simp
          · rw [if_neg e]
            by_cases c : 2 ≤ i
            · rw [if_pos c, if_pos (by omega)]; rfl
            · rw [if_neg c, if_neg (by omega)]; rfl
      rw [h]; split <;> omega
    · by_cases c15 : k = 15
      · have h : ∀ i, blen k s nm i ≤ nm.length ∧ (i = 0 → blen k s nm i = 0) := by
          intro i
          induction i with
          | zero => exact ⟨Nat.zero_le _, fun _ => rfl⟩
          | succ i ih =>
            have hb : bro k s nm i = if i = 0 then nm else [] := by unfold bro; rw [if_neg c12, if_neg c9, if_pos c15]
            refine ⟨?_, fun e => by omega⟩
            rw [blen, hb]
            by_cases e : i = 0
            · rw [ih.2 e, if_pos e]; omega
            · rw [if_neg e]; simpa using ih.1
        have := (h i).1
        omega
      · by_cases c17 : k = 17
        · have h : ∀ i, blen k s nm i ≤ min (i - 1) nm.length := by
            intro i
            induction i with
            | zero => simp [blen]
            | succ i ih =>
              have hb : bro k s nm i = if 0 < i then (nm.drop (i - 1)).take 1 else [] := by unfold bro; rw [if_neg c12, if_neg c9, if_neg c15, if_pos c17]
              rw [blen, hb]
              by_cases e : 0 < i
              · rw [if_pos e, List.length_take, List.length_drop]; omega
              · rw [if_neg e]; simp only [List.length_nil]; omega
          have := h i
          omega
        · have h : ∀ i, blen k s nm i = 0 := by
            intro i
            induction i with
            | zero => rfl
            | succ i ih =>
              have hb : bro k s nm i = [] := by unfold bro; rw [if_neg c12, if_neg c9, if_neg c15, if_neg c17]
              rw [blen, ih, hb]; rfl
          rw [h]; omega
theorem bag_len (N : List Nam) (k : Int) (s : Nam) (nm B : List Nam) : ∀ i, (bag N k s nm B i).length ≤ B.length + blen k s nm i
  | 0 => by simp [bag_zero, blen]
  | i + 1 => by
    have h1 := bag_len N k s nm B i
    have h2 := off_len N (bro k s nm i)
    rw [bag_succ, List.length_append, blen]
    omega
theorem bro_len (k : Int) (s : Nam) (nm : List Nam) (i : Nat) : (bro k s nm i).length ≤ 1 + nm.length := by
  have h1 := blen_le k s nm (i + 1)
  rw [blen] at h1
  omega
theorem massL_take (l : List Ex) (i : Nat) (h : i < l.length) : massL (l.take (i + 1)) = massL (l.take i) + l[i].mass := by
  have : ∀ a b : List Ex, massL (a ++ b) = massL a + massL b := by
    intro a b
    induction a with
    | nil => simp [massL]
    | cons x a ih => simp only [List.cons_append, massL, ih]; omega
  rw [List.take_succ_eq_append_getElem h, this]; simp [massL]
theorem massL_le (l : List Ex) (i : Nat) : massL (l.take i) ≤ massL l := by
  have : ∀ a b : List Ex, massL (a ++ b) = massL a + massL b := by
    intro a b
    induction a with
    | nil => simp [massL]
    | cons x a ih => simp only [List.cons_append, massL, ih]; omega
  have h := this (l.take i) (l.drop i)
  rw [List.take_append_drop] at h
  omega
theorem rd_mk (N : List Nam) (most ec k : Int) (s : Nam) (nm : List Nam) (l : List Ex) (B F : List Nam) : rd N most ec (.mk k s nm l) B F = if k = 3 ∧ s ∉ B ∧ s ∉ N then (if ec = 0 then rdL N most ec k s nm l 0 B (s :: F) else (ec, s :: F)) else rdL N most ec k s nm l 0 B F := by rw [rd]
theorem rdL_cons (N : List Nam) (most ec k : Int) (s : Nam) (nm : List Nam) (p : Ex) (ps : List Ex) (i : Nat) (B F : List Nam) : rdL N most ec k s nm (p :: ps) i B F = if most < N.length + few (off N (bro k s nm i) ++ B) then (19, F)
    else if (rd N most ec p (off N (bro k s nm i) ++ B) F).1 = 0 then rdL N most ec k s nm ps (i + 1) (off N (bro k s nm i) ++ B) (rd N most ec p (off N (bro k s nm i) ++ B) F).2
    else rd N most ec p (off N (bro k s nm i) ++ B) F := by rw [rdL]
theorem Keep.undrew {A : Nat → Prop} {w w' : World} (h : Keep A w.drew w') : Keep A w w' := ⟨h.os, h.tape, h.output, h.size, h.block⟩
/-- What is told of a name that isn't in scope. -/
structure LackOk (W0 : World) (rb mb : Nat) (A : Nat → Prop) (g : Nat) (cb : Array Value) (ec : Int) (S : World → List Nam → Prop) : Prop where
  enters : ∀ args w, (callFunc g args).run Tryz.prog w = .ok (.enter g args) w
  call : ∀ w F x, S w F → F.length ≤ 100000000 → x.length ≤ 2000000 → Calls Tryz.prog g (#[.string (text x)] ++ cb) w fun e w' => e = .returned (.int .i64 ec) ∧ S w' (x :: F) ∧ Keep A w w'
  stay : ∀ w w' F, S w F → Keep (· = mb) w w' → S w' F
  apart : ∀ b, A b → W0.heap.size ≤ b ∧ b ≠ rb ∧ b ≠ mb
mutual
theorem rd_len (N : List Nam) (most ec : Int) : ∀ (e : Ex) (B F : List Nam), (rd N most ec e B F).2.length ≤ F.length + e.size
  | .mk k s nm l, B, F => by
    rw [rd_mk]
    simp only [Ex.size]
    split
    · split
      · have := rdL_len N most ec k s nm l 0 B (s :: F)
        simp only [List.length_cons] at this
        omega
      · simp only [List.length_cons]; omega
    · have := rdL_len N most ec k s nm l 0 B F
      omega
theorem rdL_len (N : List Nam) (most ec : Int) (k : Int) (s : Nam) (nm : List Nam) : ∀ (l : List Ex) (i : Nat) (B F : List Nam), (rdL N most ec k s nm l i B F).2.length ≤ F.length + sizeL l
  | [], i, B, F => by simp [rdL]
  | p :: ps, i, B, F => by
    rw [rdL_cons]
    have h1 := rd_len N most ec p (off N (bro k s nm i) ++ B) F
    have h2 := rdL_len N most ec k s nm ps (i + 1) (off N (bro k s nm i) ++ B) (rd N most ec p (off N (bro k s nm i) ++ B) F).2
    simp only [sizeL]
    split
    · simp
    · split <;> omega
end
set_option maxHeartbeats 16000000 in
theorem read_any {W0 : World} {rb mb : Nat} {A : Nat → Prop} {g : Nat} {cb : Array Value} {ec : Int} {S : World → List Nam → Prop} {p : Option Addr} {N : List Nam} {most : Int} (LK : LackOk W0 rb mb A g cb ec S) (hN : N.length ≤ 100000) :
    ∀ (M : Nat) (e : Ex), e.size ≤ M → ∀ (B F : List Nam) (n : Nat) (w : World) (b o : Nat) (nv pv : Value), Rdr W0 rb p N mb most (.func (.func g) #[] cb) B n w → S w F → ExAt W0 b o e nv pv → e.mass ≤ 2000000 → n + 2 * e.mass ≤ 100000000000 → B.length + e.mass ≤ 100000000000 → F.length + e.size ≤ 100000000 →
    Calls Tryz.prog 35 #[.pointer (some ⟨rb, 0, none⟩), .pointer (some ⟨b, o, none⟩)] w fun r w' => r = .returned (.int .i64 (rd N most ec e B F).1) ∧ S w' (rd N most ec e B F).2 ∧ Keep (fun c => c = mb ∨ A c) w w' ∧
      ((rd N most ec e B F).1 = 0 → Rdr W0 rb p N mb most (.func (.func g) #[] cb) B (n + 2 * e.mass) w') := by
  intro M
  induction M with
  | zero => intro e hM; have := e.size_pos; omega
  | succ M ih =>
    intro e hM B F n w b o nv pv hR hS hX hm hn hb hFl
    obtain ⟨k, s, nm, l⟩ := e
    have hx0 := hX
    simp only [Ex.mass] at hm hn hb ⊢
    simp only [Ex.size] at hFl
    have HFL := hid hFl
    clear hFl
    have hms : s.length ≤ 2000000 := by omega
    have hnl := namesMass_len nm
    have HNM := hid (fun x (h : x ∈ nm) => namesMass_mem h)
    have HBR := hid (fun (i : Nat) (x : Nam) (h : x ∈ bro k s nm i) => (show x.length ≤ 2000000 from by
      rcases bro_mem h with rfl | rfl | h
      · omega
      · decide
      · have := HNM.out x h; omega))
    have HBL := hid (bro_len k s nm)
    have HBE := hid (blen_le k s nm)
    have hsz : sizeL l ≤ M := by simp only [Ex.size] at hM; omega
    obtain ⟨no, nn, nc, rfl⟩ : ∃ a n c, nv = .slice a n c := by
      have := hX.is.parts.1
      obtain ⟨⟨a, c, h1, _⟩, _⟩ := this
      exact ⟨_, _, _, h1⟩
    obtain ⟨po, pn, pc, rfl⟩ := hX.is.parts.2.form
    have HX := hid hX
    have HP := hid hX.is.parts.2
    simp only [Ex.l] at HP
    have plen := fun X => HP.out.len (ty := 3) X
    have HIH := hid ih
    have HLK := hid LK
    have eg := LK.enters
    have HR := hid hR
    have HS := hid hS
    have HRD := rd_mk N most ec k s nm l B F
    have XW := hX.later hR.old
    have c0 := XW.c0
    have c1 := XW.c1
    have c3 := XW.c3
    simp only [Ex.kind, Ex.s] at c0 c1
    have HAS := hid (has_any hR s hms)
    have d0 : w.cell? ⟨rb, 3, none⟩ = some (.func (.func g) #[] cb) := by rw [Lib.cell_of_heap hR.cur]; rfl
    have hlm : l.length ≤ 2000000 := by have := sizeL_len l; have := sizeL_mass l; omega
    clear hX hx0 hM ih LK hR hS XW
    have HTL := hid (fun (N B : List Nam) (i m : Nat) => (show (bagT N k s nm B i m).length ≤ (bagT N k s nm B 0 m).length from by
      have h : ∀ c i, (bagT N k s nm B (i + c) m).length ≤ (bagT N k s nm B i m).length := by
        intro c
        induction c with
        | zero => intro i; exact Nat.le_refl _
        | succ c ihc =>
          intro i
          by_cases hi : i < m
          · have h1 := ihc (i + 1)
            rw [show i + 1 + c = i + (c + 1) by omega] at h1
            rw [bagT_succ N k s nm B hi, List.length_append]
            omega
          · have e1 : bagT N k s nm B (i + (c + 1)) m = B := by simp [bagT, show m - (i + (c + 1)) = 0 by omega]
            have e2 : bagT N k s nm B i m = B := by simp [bagT, show m - i = 0 by omega]
            rw [e1, e2]; exact Nat.le_refl _
      simpa using h i 0))
    by_cases hk : k = 3
    · subst hk
      by_cases hs : s ∈ B ∨ s ∈ N
      · have hd : decide (s ∈ B ∨ s ∈ N) = true := decide_eq_true hs
        rw [hd] at HAS
        have HES := hid (HRD.trans (if_neg (fun c => hs.elim (fun x => c.2.1 x) (fun x => c.2.2 x))))
        clear hs hd d0 HRD
        obtain ⟨k, hk⟩ : ∃ k : Int, k = 3 := ⟨3, rfl⟩
        go_enter Tryz.func35, Tryz.ntmps35
        go_wp2_with fail
        refine HAS.out.mono ?_
        rintro r0 w1 ⟨rfl, qq, rfl⟩
        have HRS := hid (HR.out.drew qq)
        have HSS := hid (HLK.out.stay w (w.drewN qq) F HS.out ((Keep.refl _ _).drew _))
        have HKS := hid ((Keep.refl (fun c => c = mb ∨ A c) w).drew qq)
        have a0 := (HX.out.later HRS.out.old).c0
        have a3 := (HX.out.later HRS.out.old).c3
        simp only [Ex.kind] at a0
        clear c0 c1 c3 k hk
        generalize w.drewN qq = WS at *
        go_wp2_with fail
        have FSe : F = F := rfl
        go_loopg [40, 6, 7] l.length (fun gk iv _ _ X => ∃ (i n' : Nat) (F' : List Nam), iv = .int .i64 i ∧ i + gk = l.length ∧ Hid (Rdr W0 rb p N mb most (.func (.func g) #[] cb) (bag N 3 s nm B i) n' X) ∧ Hid (S X F') ∧ Hid (Keep (fun c => c = mb ∨ A c) w X) ∧ Hid (n' ≤ n + blen 3 s nm i + 2 * massL (l.take i)) ∧ Hid (F'.length + sizeL (l.drop i) ≤ 100000000) ∧ Hid (rdL N most ec 3 s nm l 0 B F = rdL N most ec 3 s nm (l.drop i) i (bag N 3 s nm B i) F'))
        case atStart => exact ⟨0, n, F, rfl, by omega, hid (by rw [bag_zero]; exact HRS.out), HSS, HKS, hid (by simp [blen, massL]), hid (by have := HFL.out; rw [List.drop_zero]; first | omega | (simp only [List.length_cons]; omega)), hid (by rw [List.drop_zero, bag_zero])⟩
        case round =>
          rename World => X
          obtain ⟨i, n', F', rfl, hig, HR1, HS1, HK1, HN1, HF1, HE1⟩ := hrel
          have hbe := HBE.out i
          have hmle := massL_le l i
          have hblg := bag_len N 3 s nm B i
          have hbi := HBL.out i
          have hn1 := HN1.out
          have hXX := HX.out.later HR1.out.old
          have e0 := hXX.c0
          have e3 := hXX.c3
          simp only [Ex.kind] at e0
          by_cases hi : i < l.length
          · have HBT := hid (brought_any hXX i (by omega))
            simp only [Ex.kind, Ex.s, Ex.nm] at HBT
            have HDR := hid (List.drop_eq_getElem_cons hi)
            have HMT := hid (massL_take l i hi)
            have hmle2 := massL_le l (i + 1)
            have hpz : l[i].size ≤ M := by have := sizeL_mem (List.getElem_mem hi); omega
            have hpm : l[i].mass ≤ massL l := massL_mem (List.getElem_mem hi)
            obtain ⟨pb, po2, nv2, pv2, ix, hat⟩ := HP.out.at i hi
            have ix' := fun W => ix .i64 W
            have HAT := hid hat
            generalize l[i] = q at *
            clear hXX ix hat
            go_wp2_with fail
            refine HBT.out.mono ?_
            rintro r1 w2 ⟨v2, rfl, hv2, hb2⟩
            have HR2 := hid (HR1.out.later hb2)
            have HS2 := hid (HLK.out.stay X w2 F' HS1.out (Keep.of_below hb2))
            have HK2 := hid (HK1.out.trans (Keep.of_below (A := fun c => c = mb ∨ A c) hb2) (fun _ _ c => c))
            have MT := hid (meet_any HR2.out v2 (bro 3 s nm i) hv2 (HBR.out i) (by omega) (by omega))
            clear hv2 hb2
            go_wp2_with fail
            refine MT.out.mono ?_
            rintro r2 w3 ⟨rfl, hr3, hk3⟩
            have HR3 := hid hr3
            have HS3 := hid (HLK.out.stay w2 w3 F' HS2.out hk3)
            have HK3 := hid (HK2.out.trans hk3 (fun _ _ c => .inl c))
            clear hr3 hk3
            obtain ⟨B3, hB3⟩ : ∃ B3, off N (bro 3 s nm i) ++ bag N 3 s nm B i = B3 := ⟨_, rfl⟩
            have HB3 := hid hB3
            rw [hB3] at HR3
            have hfew : few B3 ≤ 400000000000 := by
              have h1 := few_le B3
              have h2 := off_len N (bro 3 s nm i)
              rw [← hB3, List.length_append] at h1
              rw [← hB3]
              omega
            have hb3l : B3.length ≤ B.length + blen 3 s nm i + (bro 3 s nm i).length := by
              have h2 := off_len N (bro 3 s nm i)
              rw [← hB3, List.length_append]
              omega
            have hbe2 := HBE.out (i + 1)
            rw [blen] at hbe2
            have HCONS := hid (rdL_cons N most ec 3 s nm q (l.drop (i + 1)) i (bag N 3 s nm B i) F')
            rw [hB3] at HCONS
            clear hB3
            have g0 : w3.cell? ⟨rb, 0, none⟩ = some (.pointer p) := by rw [Lib.cell_of_heap HR3.out.cur]; rfl
            have g1 : w3.cell? ⟨rb, 1, none⟩ = some (.map (some mb)) := by rw [Lib.cell_of_heap HR3.out.cur]; rfl
            have g2 : w3.cell? ⟨rb, 2, none⟩ = some (.int .i64 most) := by rw [Lib.cell_of_heap HR3.out.cur]; rfl
            have HLN := hid (fun (qn : Nat) => SLen_any p N (w3.drewN qn) ((HR3.out.sc.later HR3.out.old).later (Go.Proofs.YtlhhjocfbafoeaaGreatDoor.Sc.below_drewN w3 (b0 w3) qn)))
            have HQ := hid (show ∀ qn, Calls Tryz.prog 52 #[.pointer p] (w3.drewN qn) fun e w' => e = .returned (.int .i64 N.length) ∧ ∃ m, w' = (w3.drewN qn).drewN m from fun qn => (HLN.out qn).mono (fun e w' h => ⟨h.1, 0, h.2⟩))
            have ml := fun (qn : Nat) => (HR3.out.drew qn).met.len 3
            obtain ⟨fb, hfb⟩ : ∃ fb, few B3 = fb := ⟨_, rfl⟩
            obtain ⟨NL, hNL⟩ : ∃ NL, N.length = NL := ⟨_, rfl⟩
            obtain ⟨sm, hsm⟩ : ∃ sm : Int, (NL : Int) + (fb : Int) = sm := ⟨_, rfl⟩
            have hsum : wrap64 ((NL : Int) + (fb : Int)) = sm := by rw [IntWalk.wrap64_in _ ⟨by omega, by omega⟩]; exact hsm
            have PK1 := hid (show B3.length + q.mass ≤ 100000000000 by omega)
            have PK2 := hid (show n' + (bro 3 s nm i).length + 2 * q.mass ≤ 100000000000 by have := HMT.out; omega)
            have PK3 := hid (show q.mass ≤ 2000000 by omega)
            have PK4 := hid (show n' + (bro 3 s nm i).length + 2 * q.mass ≤ n + (blen 3 s nm i + (bro 3 s nm i).length) + 2 * massL (l.take (i + 1)) by have := HMT.out; omega)
            have PK5 := hid hpz
            rw [hfb, hNL, hsm] at HCONS
            rw [hNL] at HQ
            simp only [hfb] at ml
            have HI := hid hi
            have HF2 := hid (show F'.length + q.size + sizeL (l.drop (i + 1)) ≤ 100000000 from by have := HF1.out; rw [HDR.out] at this; simp only [sizeL] at this; omega)
            have HRL := hid (rd_len N most ec q B3 F')
            clear hfb hsm hfew hb3l hbe2 hblg hbe hmle hmle2 hn1 hbi hpm hpz hnl hms hsz hm hn hb HLN
            by_cases hgt : most < sm
            · have HT := hid (show rdL N most ec 3 s nm l 0 B F = (19, F') by rw [HE1.out, HDR.out, HCONS.out, if_pos hgt])
              clear hNL
              go_wp2_with fail
              go_quiet ((go_at_call 52; exact Calls.quiet_of (HQ.out _)))
              go_wp2
              go_ret
              rw [HES.out, HT.out]
              exact ⟨rfl, HLK.out.stay _ _ _ HS3.out ((Keep.refl _ _).drew _), HK3.out.drew _, fun c => by cases c⟩
            · have HCN := hid (show rdL N most ec 3 s nm l 0 B F = if (rd N most ec q B3 F').1 = 0 then rdL N most ec 3 s nm (l.drop (i + 1)) (i + 1) B3 (rd N most ec q B3 F').2 else rd N most ec q B3 F' by rw [HE1.out, HDR.out, HCONS.out, if_neg hgt])
              have HGT := hid hgt
              have hd : decide (most < sm) = false := decide_eq_false hgt
              clear hNL
              go_wp2_with fail
              go_quiet ((go_at_call 52; exact Calls.quiet_of (HQ.out _)))
              rename_i nq
              have HR4 := hid (HR3.out.drew nq)
              have HS4 := hid (HLK.out.stay w3 (w3.drewN nq) F' HS3.out ((Keep.refl _ _).drew _))
              have HK4 := hid (HK3.out.drew nq)
              have h4 := (HX.out.later HR4.out.old).c3
              clear ml g0 g1 g2 HQ
              generalize w3.drewN nq = w4 at *
              have IH := hid (HIH.out q PK5.out B3 F' (n' + (bro 3 s nm i).length) w4 pb po2 nv2 pv2 HR4.out HS4.out HAT.out PK3.out PK2.out PK1.out (by have := HF2.out; omega))
              obtain ⟨re, hre⟩ : ∃ re, rd N most ec q B3 F' = re := ⟨_, rfl⟩
              rw [hre] at IH HCN HRL
              obtain ⟨r0, rF⟩ := re
              simp only at IH HCN HRL
              clear hre hgt hd
              go_wp2_with fail
              refine IH.out.mono ?_
              rintro r3 w5 ⟨rfl, hs5, hk5, hr5⟩
              have HS5 := hid hs5
              have HK5 := hid (HK4.out.trans hk5 (fun _ _ c => c))
              have HR5 := hid hr5
              clear hs5 hk5 hr5
              by_cases h0 : r0 = 0
              · subst h0
                have HR6 := hid (HR5.out rfl)
                have HT := hid (show rdL N most ec 3 s nm l 0 B F = rdL N most ec 3 s nm (l.drop (i + 1)) (i + 1) B3 rF by rw [HCN.out, if_pos rfl])
                go_wp2
                go_roundg (gk - 1)
                case measure => omega
                case rel =>
                  refine ⟨i + 1, n' + (bro 3 s nm i).length + 2 * q.mass, rF, by go_num, by omega, ?_, HS5, HK5, hid ?_, hid (by have := HF2.out; have := HRL.out; omega), ?_⟩
                  · rw [bag_succ, HB3.out]; exact HR6
                  · rw [blen]; exact PK4.out
                  · rw [bag_succ, HB3.out]; exact HT
              · have HT := hid (show rdL N most ec 3 s nm l 0 B F = (r0, rF) by rw [HCN.out, if_neg h0])
                have H0 := hid h0
                go_wp2
                go_ret
                rw [HES.out, HT.out]
                exact ⟨rfl, HS5.out, HK5.out, fun c => absurd c H0.out⟩
          · have hil : i = l.length := by omega
            subst hil
            have HT := hid (show rdL N most ec 3 s nm l 0 B F = (0, F') by rw [HE1.out, List.drop_length]; rw [rdL])
            have HR7 := hid (HR1.out.perm (bag_perm N 3 s nm B l.length))
            go_wp2_with fail
            go_loopg [81, 8] l.length (fun gk iv _ Y => ∃ (j m : Nat), iv = .int .i64 j ∧ j + gk = l.length ∧ Hid (Rdr W0 rb p N mb most (.func (.func g) #[] cb) (bagT N 3 s nm B j l.length) m Y) ∧ Hid (S Y F') ∧ Hid (Keep (fun c => c = mb ∨ A c) w Y) ∧ Hid (m ≤ n' + blen 3 s nm j))
            case atStart => exact ⟨0, n', rfl, by omega, HR7, HS1, HK1, hid (by simp [blen])⟩
            case round =>
              rename World => Y
              obtain ⟨j, m, rfl, hjg, HR8, HS8, HK8, HN8⟩ := hrel
              have hbj := HBE.out j
              have hbl2 := HBL.out j
              have hn8 := HN8.out
              have hYY := HX.out.later HR8.out.old
              have y0 := hYY.c0
              have y3 := hYY.c3
              simp only [Ex.kind] at y0
              by_cases hj : j < l.length
              · have HBT := hid (brought_any hYY j (by omega))
                simp only [Ex.kind, Ex.s, Ex.nm] at HBT
                have HBG := hid (bagT_succ N 3 s nm B hj)
                have hbe2 := HBE.out (j + 1)
                rw [blen] at hbe2
                clear hYY
                go_wp2_with fail
                refine HBT.out.mono ?_
                rintro r1 w2 ⟨v2, rfl, hv2, hb2⟩
                have HR9 := hid (show Rdr W0 rb p N mb most (.func (.func g) #[] cb) (off N (bro 3 s nm j) ++ bagT N 3 s nm B (j + 1) l.length) m w2 from by rw [← HBG.out]; exact HR8.out.later hb2)
                have HS9 := hid (HLK.out.stay Y w2 F' HS8.out (Keep.of_below hb2))
                have HK9 := hid (HK8.out.trans (Keep.of_below (A := fun c => c = mb ∨ A c) hb2) (fun _ _ c => c))
                have LV := hid (leave_any v2 (bro 3 s nm j) HR9.out hv2 (HBR.out j) (by omega) (by
                  have h1 := (bag_perm N 3 s nm B l.length).length_eq
                  have h2 : (bagT N 3 s nm B (j + 1) l.length).length ≤ (bagT N 3 s nm B 0 l.length).length := HTL.out N B (j + 1) l.length
                  omega))
                clear hv2 hb2
                go_wp2_with fail
                refine LV.out.mono ?_
                rintro r2 w3 ⟨rfl, hr3, hk3⟩
                have HR10 := hid hr3
                have HS10 := hid (HLK.out.stay w2 w3 F' HS9.out hk3)
                have HK10 := hid (HK9.out.trans hk3 (fun _ _ c => .inl c))
                clear hr3 hk3
                go_wp2
                go_roundg (gk - 1)
                case measure => omega
                case rel => exact ⟨j + 1, m + (bro 3 s nm j).length, by go_num, by omega, HR10, HS10, HK10, hid (by rw [blen]; omega)⟩
              · have hjl : j = l.length := by omega
                subst hjl
                have HR11 := hid (show Rdr W0 rb p N mb most (.func (.func g) #[] cb) B m Y from by have := HR8.out; rw [bagT_end] at this; exact this)
                have htk : l.take l.length = l := List.take_length
                have HMM := hid (show m ≤ n + 2 * (1 + s.length + namesMass nm + massL l) by
                  rw [htk] at hn1
                  omega)
                go_wp2
                go_ret
                rw [HES.out, HT.out]
                exact ⟨rfl, HS8.out, HK8.out, fun _ => HR11.out.mono HMM.out⟩
      · have hd : decide (s ∈ B ∨ s ∈ N) = false := decide_eq_false hs
        rw [hd] at HAS
        have HC := hid (HRD.trans (if_pos ⟨rfl, fun x => hs (.inl x), fun x => hs (.inr x)⟩))
        clear hs hd HRD
        go_enter Tryz.func35, Tryz.ntmps35
        go_wp2_with fail
        refine HAS.out.mono ?_
        rintro r0 w1 ⟨rfl, qq, rfl⟩
        have HRS0 := hid (HR.out.drew qq)
        have HSS0 := hid (HLK.out.stay w (w.drewN qq) F HS.out ((Keep.refl _ _).drew _))
        have HKS0 := hid ((Keep.refl (fun c => c = mb ∨ A c) w).drew qq)
        have a1 := (HX.out.later HRS0.out.old).c1
        have d1 : (w.drewN qq).cell? ⟨rb, 3, none⟩ = some (.func (.func g) #[] cb) := by rw [Lib.cell_of_heap HRS0.out.cur]; rfl
        simp only [Ex.s] at a1
        clear c0 c1 c3 d0
        generalize w.drewN qq = WR at *
        have LC := hid (fun X (hX : S X F) => HLK.out.call X F s hX (by have := HFL.out; omega) hms)
        have HSD := hid (fun (n : Nat) => HLK.out.stay WR (WR.drewN n) F HSS0.out ((Keep.refl _ _).drew _))
        go_wp2_with fail
        go_region_with (
          go_at_fn g
          refine (LC.out _ ?hsd).mono ?_
          case hsd => first | exact HSD.out 1 | exact HSD.out 2 | exact HSD.out 0
          rintro r1 w2 ⟨rfl, hs2, hk2⟩
          have HSS := hid hs2
          have HK2 := hid hk2
          clear hs2 hk2)
        all_goals have HKS := hid (HKS0.out.trans (HK2.out.undrew : Keep A WR w2) (fun _ _ c => .inr c))
        all_goals have HRS := hid (HRS0.out.keep (HK2.out.undrew : Keep A WR w2) HLK.out.apart)
        all_goals (
          by_cases hec : ec = 0
          · subst hec
            have HES := hid (HC.out.trans (if_pos rfl))
            have a0 := (HX.out.later HRS.out.old).c0
            have a3 := (HX.out.later HRS.out.old).c3
            simp only [Ex.kind] at a0
            clear a1 d1
            go_wp2_with fail
            go_loopg [40, 6, 7] l.length (fun gk iv _ _ X => ∃ (i n' : Nat) (F' : List Nam), iv = .int .i64 i ∧ i + gk = l.length ∧ Hid (Rdr W0 rb p N mb most (.func (.func g) #[] cb) (bag N 3 s nm B i) n' X) ∧ Hid (S X F') ∧ Hid (Keep (fun c => c = mb ∨ A c) w X) ∧ Hid (n' ≤ n + blen 3 s nm i + 2 * massL (l.take i)) ∧ Hid (F'.length + sizeL (l.drop i) ≤ 100000000) ∧ Hid (rdL N most 0 3 s nm l 0 B (s :: F) = rdL N most 0 3 s nm (l.drop i) i (bag N 3 s nm B i) F'))
            case atStart => exact ⟨0, n, (s :: F), rfl, by omega, hid (by rw [bag_zero]; exact HRS.out), HSS, HKS, hid (by simp [blen, massL]), hid (by have := HFL.out; rw [List.drop_zero]; first | omega | (simp only [List.length_cons]; omega)), hid (by rw [List.drop_zero, bag_zero])⟩
            case round =>
              rename World => X
              obtain ⟨i, n', F', rfl, hig, HR1, HS1, HK1, HN1, HF1, HE1⟩ := hrel
              have hbe := HBE.out i
              have hmle := massL_le l i
              have hblg := bag_len N 3 s nm B i
              have hbi := HBL.out i
              have hn1 := HN1.out
              have hXX := HX.out.later HR1.out.old
              have e0 := hXX.c0
              have e3 := hXX.c3
              simp only [Ex.kind] at e0
              by_cases hi : i < l.length
              · have HBT := hid (brought_any hXX i (by omega))
                simp only [Ex.kind, Ex.s, Ex.nm] at HBT
                have HDR := hid (List.drop_eq_getElem_cons hi)
                have HMT := hid (massL_take l i hi)
                have hmle2 := massL_le l (i + 1)
                have hpz : l[i].size ≤ M := by have := sizeL_mem (List.getElem_mem hi); omega
                have hpm : l[i].mass ≤ massL l := massL_mem (List.getElem_mem hi)
                obtain ⟨pb, po2, nv2, pv2, ix, hat⟩ := HP.out.at i hi
                have ix' := fun W => ix .i64 W
                have HAT := hid hat
                generalize l[i] = q at *
                clear hXX ix hat
                go_wp2_with fail
                refine HBT.out.mono ?_
                rintro r1 w2 ⟨v2, rfl, hv2, hb2⟩
                have HR2 := hid (HR1.out.later hb2)
                have HS2 := hid (HLK.out.stay X w2 F' HS1.out (Keep.of_below hb2))
                have HK2 := hid (HK1.out.trans (Keep.of_below (A := fun c => c = mb ∨ A c) hb2) (fun _ _ c => c))
                have MT := hid (meet_any HR2.out v2 (bro 3 s nm i) hv2 (HBR.out i) (by omega) (by omega))
                clear hv2 hb2
                go_wp2_with fail
                refine MT.out.mono ?_
                rintro r2 w3 ⟨rfl, hr3, hk3⟩
                have HR3 := hid hr3
                have HS3 := hid (HLK.out.stay w2 w3 F' HS2.out hk3)
                have HK3 := hid (HK2.out.trans hk3 (fun _ _ c => .inl c))
                clear hr3 hk3
                obtain ⟨B3, hB3⟩ : ∃ B3, off N (bro 3 s nm i) ++ bag N 3 s nm B i = B3 := ⟨_, rfl⟩
                have HB3 := hid hB3
                rw [hB3] at HR3
                have hfew : few B3 ≤ 400000000000 := by
                  have h1 := few_le B3
                  have h2 := off_len N (bro 3 s nm i)
                  rw [← hB3, List.length_append] at h1
                  rw [← hB3]
                  omega
                have hb3l : B3.length ≤ B.length + blen 3 s nm i + (bro 3 s nm i).length := by
                  have h2 := off_len N (bro 3 s nm i)
                  rw [← hB3, List.length_append]
                  omega
                have hbe2 := HBE.out (i + 1)
                rw [blen] at hbe2
                have HCONS := hid (rdL_cons N most 0 3 s nm q (l.drop (i + 1)) i (bag N 3 s nm B i) F')
                rw [hB3] at HCONS
                clear hB3
                have g0 : w3.cell? ⟨rb, 0, none⟩ = some (.pointer p) := by rw [Lib.cell_of_heap HR3.out.cur]; rfl
                have g1 : w3.cell? ⟨rb, 1, none⟩ = some (.map (some mb)) := by rw [Lib.cell_of_heap HR3.out.cur]; rfl
                have g2 : w3.cell? ⟨rb, 2, none⟩ = some (.int .i64 most) := by rw [Lib.cell_of_heap HR3.out.cur]; rfl
                have HLN := hid (fun (qn : Nat) => SLen_any p N (w3.drewN qn) ((HR3.out.sc.later HR3.out.old).later (Go.Proofs.YtlhhjocfbafoeaaGreatDoor.Sc.below_drewN w3 (b0 w3) qn)))
                have HQ := hid (show ∀ qn, Calls Tryz.prog 52 #[.pointer p] (w3.drewN qn) fun e w' => e = .returned (.int .i64 N.length) ∧ ∃ m, w' = (w3.drewN qn).drewN m from fun qn => (HLN.out qn).mono (fun e w' h => ⟨h.1, 0, h.2⟩))
                have ml := fun (qn : Nat) => (HR3.out.drew qn).met.len 3
                obtain ⟨fb, hfb⟩ : ∃ fb, few B3 = fb := ⟨_, rfl⟩
                obtain ⟨NL, hNL⟩ : ∃ NL, N.length = NL := ⟨_, rfl⟩
                obtain ⟨sm, hsm⟩ : ∃ sm : Int, (NL : Int) + (fb : Int) = sm := ⟨_, rfl⟩
                have hsum : wrap64 ((NL : Int) + (fb : Int)) = sm := by rw [IntWalk.wrap64_in _ ⟨by omega, by omega⟩]; exact hsm
                have PK1 := hid (show B3.length + q.mass ≤ 100000000000 by omega)
                have PK2 := hid (show n' + (bro 3 s nm i).length + 2 * q.mass ≤ 100000000000 by have := HMT.out; omega)
                have PK3 := hid (show q.mass ≤ 2000000 by omega)
                have PK4 := hid (show n' + (bro 3 s nm i).length + 2 * q.mass ≤ n + (blen 3 s nm i + (bro 3 s nm i).length) + 2 * massL (l.take (i + 1)) by have := HMT.out; omega)
                have PK5 := hid hpz
                rw [hfb, hNL, hsm] at HCONS
                rw [hNL] at HQ
                simp only [hfb] at ml
                have HI := hid hi
                have HF2 := hid (show F'.length + q.size + sizeL (l.drop (i + 1)) ≤ 100000000 from by have := HF1.out; rw [HDR.out] at this; simp only [sizeL] at this; omega)
                have HRL := hid (rd_len N most 0 q B3 F')
                clear hfb hsm hfew hb3l hbe2 hblg hbe hmle hmle2 hn1 hbi hpm hpz hnl hms hsz hm hn hb HLN
                by_cases hgt : most < sm
                · have HT := hid (show rdL N most 0 3 s nm l 0 B (s :: F) = (19, F') by rw [HE1.out, HDR.out, HCONS.out, if_pos hgt])
                  clear hNL
                  go_wp2_with fail
                  go_quiet ((go_at_call 52; exact Calls.quiet_of (HQ.out _)))
                  go_wp2
                  go_ret
                  rw [HES.out, HT.out]
                  exact ⟨rfl, HLK.out.stay _ _ _ HS3.out ((Keep.refl _ _).drew _), HK3.out.drew _, fun c => by cases c⟩
                · have HCN := hid (show rdL N most 0 3 s nm l 0 B (s :: F) = if (rd N most 0 q B3 F').1 = 0 then rdL N most 0 3 s nm (l.drop (i + 1)) (i + 1) B3 (rd N most 0 q B3 F').2 else rd N most 0 q B3 F' by rw [HE1.out, HDR.out, HCONS.out, if_neg hgt])
                  have HGT := hid hgt
                  have hd : decide (most < sm) = false := decide_eq_false hgt
                  clear hNL
                  go_wp2_with fail
                  go_quiet ((go_at_call 52; exact Calls.quiet_of (HQ.out _)))
                  rename_i nq
                  have HR4 := hid (HR3.out.drew nq)
                  have HS4 := hid (HLK.out.stay w3 (w3.drewN nq) F' HS3.out ((Keep.refl _ _).drew _))
                  have HK4 := hid (HK3.out.drew nq)
                  have h4 := (HX.out.later HR4.out.old).c3
                  clear ml g0 g1 g2 HQ
                  generalize w3.drewN nq = w4 at *
                  have IH := hid (HIH.out q PK5.out B3 F' (n' + (bro 3 s nm i).length) w4 pb po2 nv2 pv2 HR4.out HS4.out HAT.out PK3.out PK2.out PK1.out (by have := HF2.out; omega))
                  obtain ⟨re, hre⟩ : ∃ re, rd N most 0 q B3 F' = re := ⟨_, rfl⟩
                  rw [hre] at IH HCN HRL
                  obtain ⟨r0, rF⟩ := re
                  simp only at IH HCN HRL
                  clear hre hgt hd
                  go_wp2_with fail
                  refine IH.out.mono ?_
                  rintro r3 w5 ⟨rfl, hs5, hk5, hr5⟩
                  have HS5 := hid hs5
                  have HK5 := hid (HK4.out.trans hk5 (fun _ _ c => c))
                  have HR5 := hid hr5
                  clear hs5 hk5 hr5
                  by_cases h0 : r0 = 0
                  · subst h0
                    have HR6 := hid (HR5.out rfl)
                    have HT := hid (show rdL N most 0 3 s nm l 0 B (s :: F) = rdL N most 0 3 s nm (l.drop (i + 1)) (i + 1) B3 rF by rw [HCN.out, if_pos rfl])
                    go_wp2
                    go_roundg (gk - 1)
                    case measure => omega
                    case rel =>
                      refine ⟨i + 1, n' + (bro 3 s nm i).length + 2 * q.mass, rF, by go_num, by omega, ?_, HS5, HK5, hid ?_, hid (by have := HF2.out; have := HRL.out; omega), ?_⟩
                      · rw [bag_succ, HB3.out]; exact HR6
                      · rw [blen]; exact PK4.out
                      · rw [bag_succ, HB3.out]; exact HT
                  · have HT := hid (show rdL N most 0 3 s nm l 0 B (s :: F) = (r0, rF) by rw [HCN.out, if_neg h0])
                    have H0 := hid h0
                    go_wp2
                    go_ret
                    rw [HES.out, HT.out]
                    exact ⟨rfl, HS5.out, HK5.out, fun c => absurd c H0.out⟩
              · have hil : i = l.length := by omega
                subst hil
                have HT := hid (show rdL N most 0 3 s nm l 0 B (s :: F) = (0, F') by rw [HE1.out, List.drop_length]; rw [rdL])
                have HR7 := hid (HR1.out.perm (bag_perm N 3 s nm B l.length))
                go_wp2_with fail
                go_loopg [81, 8] l.length (fun gk iv _ Y => ∃ (j m : Nat), iv = .int .i64 j ∧ j + gk = l.length ∧ Hid (Rdr W0 rb p N mb most (.func (.func g) #[] cb) (bagT N 3 s nm B j l.length) m Y) ∧ Hid (S Y F') ∧ Hid (Keep (fun c => c = mb ∨ A c) w Y) ∧ Hid (m ≤ n' + blen 3 s nm j))
                case atStart => exact ⟨0, n', rfl, by omega, HR7, HS1, HK1, hid (by simp [blen])⟩
                case round =>
                  rename World => Y
                  obtain ⟨j, m, rfl, hjg, HR8, HS8, HK8, HN8⟩ := hrel
                  have hbj := HBE.out j
                  have hbl2 := HBL.out j
                  have hn8 := HN8.out
                  have hYY := HX.out.later HR8.out.old
                  have y0 := hYY.c0
                  have y3 := hYY.c3
                  simp only [Ex.kind] at y0
                  by_cases hj : j < l.length
                  · have HBT := hid (brought_any hYY j (by omega))
                    simp only [Ex.kind, Ex.s, Ex.nm] at HBT
                    have HBG := hid (bagT_succ N 3 s nm B hj)
                    have hbe2 := HBE.out (j + 1)
                    rw [blen] at hbe2
                    clear hYY
                    go_wp2_with fail
                    refine HBT.out.mono ?_
                    rintro r1 w2 ⟨v2, rfl, hv2, hb2⟩
                    have HR9 := hid (show Rdr W0 rb p N mb most (.func (.func g) #[] cb) (off N (bro 3 s nm j) ++ bagT N 3 s nm B (j + 1) l.length) m w2 from by rw [← HBG.out]; exact HR8.out.later hb2)
                    have HS9 := hid (HLK.out.stay Y w2 F' HS8.out (Keep.of_below hb2))
                    have HK9 := hid (HK8.out.trans (Keep.of_below (A := fun c => c = mb ∨ A c) hb2) (fun _ _ c => c))
                    have LV := hid (leave_any v2 (bro 3 s nm j) HR9.out hv2 (HBR.out j) (by omega) (by
                      have h1 := (bag_perm N 3 s nm B l.length).length_eq
                      have h2 : (bagT N 3 s nm B (j + 1) l.length).length ≤ (bagT N 3 s nm B 0 l.length).length := HTL.out N B (j + 1) l.length
                      omega))
                    clear hv2 hb2
                    go_wp2_with fail
                    refine LV.out.mono ?_
                    rintro r2 w3 ⟨rfl, hr3, hk3⟩
                    have HR10 := hid hr3
                    have HS10 := hid (HLK.out.stay w2 w3 F' HS9.out hk3)
                    have HK10 := hid (HK9.out.trans hk3 (fun _ _ c => .inl c))
                    clear hr3 hk3
                    go_wp2
                    go_roundg (gk - 1)
                    case measure => omega
                    case rel => exact ⟨j + 1, m + (bro 3 s nm j).length, by go_num, by omega, HR10, HS10, HK10, hid (by rw [blen]; omega)⟩
                  · have hjl : j = l.length := by omega
                    subst hjl
                    have HR11 := hid (show Rdr W0 rb p N mb most (.func (.func g) #[] cb) B m Y from by have := HR8.out; rw [bagT_end] at this; exact this)
                    have htk : l.take l.length = l := List.take_length
                    have HMM := hid (show m ≤ n + 2 * (1 + s.length + namesMass nm + massL l) by
                      rw [htk] at hn1
                      omega)
                    go_wp2
                    go_ret
                    rw [HES.out, HT.out]
                    exact ⟨rfl, HS8.out, HK8.out, fun _ => HR11.out.mono HMM.out⟩
          · have HEC := hid hec
            go_wp2
            go_ret
            rw [HC.out, if_neg HEC.out]
            exact ⟨rfl, HSS.out, HKS.out, fun c => absurd c HEC.out⟩)
    · have HES := hid (HRD.trans (if_neg (fun c => hk c.1)))
      clear HRD
      have HKS := hid (Keep.refl (fun c => c = mb ∨ A c) w)
      have HRS := HR
      have HSS := HS
      clear d0 HAS
      go_enter Tryz.func35, Tryz.ntmps35
      go_wp2_with fail
      go_loopg [40, 6, 7] l.length (fun gk iv _ _ X => ∃ (i n' : Nat) (F' : List Nam), iv = .int .i64 i ∧ i + gk = l.length ∧ Hid (Rdr W0 rb p N mb most (.func (.func g) #[] cb) (bag N k s nm B i) n' X) ∧ Hid (S X F') ∧ Hid (Keep (fun c => c = mb ∨ A c) w X) ∧ Hid (n' ≤ n + blen k s nm i + 2 * massL (l.take i)) ∧ Hid (F'.length + sizeL (l.drop i) ≤ 100000000) ∧ Hid (rdL N most ec k s nm l 0 B F = rdL N most ec k s nm (l.drop i) i (bag N k s nm B i) F'))
      case atStart => exact ⟨0, n, F, rfl, by omega, hid (by rw [bag_zero]; exact HRS.out), HSS, HKS, hid (by simp [blen, massL]), hid (by have := HFL.out; rw [List.drop_zero]; first | omega | (simp only [List.length_cons]; omega)), hid (by rw [List.drop_zero, bag_zero])⟩
      case round =>
        rename World => X
        obtain ⟨i, n', F', rfl, hig, HR1, HS1, HK1, HN1, HF1, HE1⟩ := hrel
        have hbe := HBE.out i
        have hmle := massL_le l i
        have hblg := bag_len N k s nm B i
        have hbi := HBL.out i
        have hn1 := HN1.out
        have hXX := HX.out.later HR1.out.old
        have e0 := hXX.c0
        have e3 := hXX.c3
        simp only [Ex.kind] at e0
        by_cases hi : i < l.length
        · have HBT := hid (brought_any hXX i (by omega))
          simp only [Ex.kind, Ex.s, Ex.nm] at HBT
          have HDR := hid (List.drop_eq_getElem_cons hi)
          have HMT := hid (massL_take l i hi)
          have hmle2 := massL_le l (i + 1)
          have hpz : l[i].size ≤ M := by have := sizeL_mem (List.getElem_mem hi); omega
          have hpm : l[i].mass ≤ massL l := massL_mem (List.getElem_mem hi)
          obtain ⟨pb, po2, nv2, pv2, ix, hat⟩ := HP.out.at i hi
          have ix' := fun W => ix .i64 W
          have HAT := hid hat
          generalize l[i] = q at *
          clear hXX ix hat
          go_wp2_with fail
          refine HBT.out.mono ?_
          rintro r1 w2 ⟨v2, rfl, hv2, hb2⟩
          have HR2 := hid (HR1.out.later hb2)
          have HS2 := hid (HLK.out.stay X w2 F' HS1.out (Keep.of_below hb2))
          have HK2 := hid (HK1.out.trans (Keep.of_below (A := fun c => c = mb ∨ A c) hb2) (fun _ _ c => c))
          have MT := hid (meet_any HR2.out v2 (bro k s nm i) hv2 (HBR.out i) (by omega) (by omega))
          clear hv2 hb2
          go_wp2_with fail
          refine MT.out.mono ?_
          rintro r2 w3 ⟨rfl, hr3, hk3⟩
          have HR3 := hid hr3
          have HS3 := hid (HLK.out.stay w2 w3 F' HS2.out hk3)
          have HK3 := hid (HK2.out.trans hk3 (fun _ _ c => .inl c))
          clear hr3 hk3
          obtain ⟨B3, hB3⟩ : ∃ B3, off N (bro k s nm i) ++ bag N k s nm B i = B3 := ⟨_, rfl⟩
          have HB3 := hid hB3
          rw [hB3] at HR3
          have hfew : few B3 ≤ 400000000000 := by
            have h1 := few_le B3
            have h2 := off_len N (bro k s nm i)
            rw [← hB3, List.length_append] at h1
            rw [← hB3]
            omega
          have hb3l : B3.length ≤ B.length + blen k s nm i + (bro k s nm i).length := by
            have h2 := off_len N (bro k s nm i)
            rw [← hB3, List.length_append]
            omega
          have hbe2 := HBE.out (i + 1)
          rw [blen] at hbe2
          have HCONS := hid (rdL_cons N most ec k s nm q (l.drop (i + 1)) i (bag N k s nm B i) F')
          rw [hB3] at HCONS
          clear hB3
          have g0 : w3.cell? ⟨rb, 0, none⟩ = some (.pointer p) := by rw [Lib.cell_of_heap HR3.out.cur]; rfl
          have g1 : w3.cell? ⟨rb, 1, none⟩ = some (.map (some mb)) := by rw [Lib.cell_of_heap HR3.out.cur]; rfl
          have g2 : w3.cell? ⟨rb, 2, none⟩ = some (.int .i64 most) := by rw [Lib.cell_of_heap HR3.out.cur]; rfl
          have HLN := hid (fun (qn : Nat) => SLen_any p N (w3.drewN qn) ((HR3.out.sc.later HR3.out.old).later (Go.Proofs.YtlhhjocfbafoeaaGreatDoor.Sc.below_drewN w3 (b0 w3) qn)))
          have HQ := hid (show ∀ qn, Calls Tryz.prog 52 #[.pointer p] (w3.drewN qn) fun e w' => e = .returned (.int .i64 N.length) ∧ ∃ m, w' = (w3.drewN qn).drewN m from fun qn => (HLN.out qn).mono (fun e w' h => ⟨h.1, 0, h.2⟩))
          have ml := fun (qn : Nat) => (HR3.out.drew qn).met.len 3
          obtain ⟨fb, hfb⟩ : ∃ fb, few B3 = fb := ⟨_, rfl⟩
          obtain ⟨NL, hNL⟩ : ∃ NL, N.length = NL := ⟨_, rfl⟩
          obtain ⟨sm, hsm⟩ : ∃ sm : Int, (NL : Int) + (fb : Int) = sm := ⟨_, rfl⟩
          have hsum : wrap64 ((NL : Int) + (fb : Int)) = sm := by rw [IntWalk.wrap64_in _ ⟨by omega, by omega⟩]; exact hsm
          have PK1 := hid (show B3.length + q.mass ≤ 100000000000 by omega)
          have PK2 := hid (show n' + (bro k s nm i).length + 2 * q.mass ≤ 100000000000 by have := HMT.out; omega)
          have PK3 := hid (show q.mass ≤ 2000000 by omega)
          have PK4 := hid (show n' + (bro k s nm i).length + 2 * q.mass ≤ n + (blen k s nm i + (bro k s nm i).length) + 2 * massL (l.take (i + 1)) by have := HMT.out; omega)
          have PK5 := hid hpz
          rw [hfb, hNL, hsm] at HCONS
          rw [hNL] at HQ
          simp only [hfb] at ml
          have HI := hid hi
          have HF2 := hid (show F'.length + q.size + sizeL (l.drop (i + 1)) ≤ 100000000 from by have := HF1.out; rw [HDR.out] at this; simp only [sizeL] at this; omega)
          have HRL := hid (rd_len N most ec q B3 F')
          clear hfb hsm hfew hb3l hbe2 hblg hbe hmle hmle2 hn1 hbi hpm hpz hnl hms hsz hm hn hb HLN
          by_cases hgt : most < sm
          · have HT := hid (show rdL N most ec k s nm l 0 B F = (19, F') by rw [HE1.out, HDR.out, HCONS.out, if_pos hgt])
            clear hNL
            go_wp2_with fail
            go_quiet ((go_at_call 52; exact Calls.quiet_of (HQ.out _)))
            go_wp2
            go_ret
            rw [HES.out, HT.out]
            exact ⟨rfl, HLK.out.stay _ _ _ HS3.out ((Keep.refl _ _).drew _), HK3.out.drew _, fun c => by cases c⟩
          · have HCN := hid (show rdL N most ec k s nm l 0 B F = if (rd N most ec q B3 F').1 = 0 then rdL N most ec k s nm (l.drop (i + 1)) (i + 1) B3 (rd N most ec q B3 F').2 else rd N most ec q B3 F' by rw [HE1.out, HDR.out, HCONS.out, if_neg hgt])
            have HGT := hid hgt
            have hd : decide (most < sm) = false := decide_eq_false hgt
            clear hNL
            go_wp2_with fail
            go_quiet ((go_at_call 52; exact Calls.quiet_of (HQ.out _)))
            rename_i nq
            have HR4 := hid (HR3.out.drew nq)
            have HS4 := hid (HLK.out.stay w3 (w3.drewN nq) F' HS3.out ((Keep.refl _ _).drew _))
            have HK4 := hid (HK3.out.drew nq)
            have h4 := (HX.out.later HR4.out.old).c3
            clear ml g0 g1 g2 HQ
            generalize w3.drewN nq = w4 at *
            have IH := hid (HIH.out q PK5.out B3 F' (n' + (bro k s nm i).length) w4 pb po2 nv2 pv2 HR4.out HS4.out HAT.out PK3.out PK2.out PK1.out (by have := HF2.out; omega))
            obtain ⟨re, hre⟩ : ∃ re, rd N most ec q B3 F' = re := ⟨_, rfl⟩
            rw [hre] at IH HCN HRL
            obtain ⟨r0, rF⟩ := re
            simp only at IH HCN HRL
            clear hre hgt hd
            go_wp2_with fail
            refine IH.out.mono ?_
            rintro r3 w5 ⟨rfl, hs5, hk5, hr5⟩
            have HS5 := hid hs5
            have HK5 := hid (HK4.out.trans hk5 (fun _ _ c => c))
            have HR5 := hid hr5
            clear hs5 hk5 hr5
            by_cases h0 : r0 = 0
            · subst h0
              have HR6 := hid (HR5.out rfl)
              have HT := hid (show rdL N most ec k s nm l 0 B F = rdL N most ec k s nm (l.drop (i + 1)) (i + 1) B3 rF by rw [HCN.out, if_pos rfl])
              go_wp2
              go_roundg (gk - 1)
              case measure => omega
              case rel =>
                refine ⟨i + 1, n' + (bro k s nm i).length + 2 * q.mass, rF, by go_num, by omega, ?_, HS5, HK5, hid ?_, hid (by have := HF2.out; have := HRL.out; omega), ?_⟩
                · rw [bag_succ, HB3.out]; exact HR6
                · rw [blen]; exact PK4.out
                · rw [bag_succ, HB3.out]; exact HT
            · have HT := hid (show rdL N most ec k s nm l 0 B F = (r0, rF) by rw [HCN.out, if_neg h0])
              have H0 := hid h0
              go_wp2
              go_ret
              rw [HES.out, HT.out]
              exact ⟨rfl, HS5.out, HK5.out, fun c => absurd c H0.out⟩
        · have hil : i = l.length := by omega
          subst hil
          have HT := hid (show rdL N most ec k s nm l 0 B F = (0, F') by rw [HE1.out, List.drop_length]; rw [rdL])
          have HR7 := hid (HR1.out.perm (bag_perm N k s nm B l.length))
          go_wp2_with fail
          go_loopg [81, 8] l.length (fun gk iv _ Y => ∃ (j m : Nat), iv = .int .i64 j ∧ j + gk = l.length ∧ Hid (Rdr W0 rb p N mb most (.func (.func g) #[] cb) (bagT N k s nm B j l.length) m Y) ∧ Hid (S Y F') ∧ Hid (Keep (fun c => c = mb ∨ A c) w Y) ∧ Hid (m ≤ n' + blen k s nm j))
          case atStart => exact ⟨0, n', rfl, by omega, HR7, HS1, HK1, hid (by simp [blen])⟩
          case round =>
            rename World => Y
            obtain ⟨j, m, rfl, hjg, HR8, HS8, HK8, HN8⟩ := hrel
            have hbj := HBE.out j
            have hbl2 := HBL.out j
            have hn8 := HN8.out
            have hYY := HX.out.later HR8.out.old
            have y0 := hYY.c0
            have y3 := hYY.c3
            simp only [Ex.kind] at y0
            by_cases hj : j < l.length
            · have HBT := hid (brought_any hYY j (by omega))
              simp only [Ex.kind, Ex.s, Ex.nm] at HBT
              have HBG := hid (bagT_succ N k s nm B hj)
              have hbe2 := HBE.out (j + 1)
              rw [blen] at hbe2
              clear hYY
              go_wp2_with fail
              refine HBT.out.mono ?_
              rintro r1 w2 ⟨v2, rfl, hv2, hb2⟩
              have HR9 := hid (show Rdr W0 rb p N mb most (.func (.func g) #[] cb) (off N (bro k s nm j) ++ bagT N k s nm B (j + 1) l.length) m w2 from by rw [← HBG.out]; exact HR8.out.later hb2)
              have HS9 := hid (HLK.out.stay Y w2 F' HS8.out (Keep.of_below hb2))
              have HK9 := hid (HK8.out.trans (Keep.of_below (A := fun c => c = mb ∨ A c) hb2) (fun _ _ c => c))
              have LV := hid (leave_any v2 (bro k s nm j) HR9.out hv2 (HBR.out j) (by omega) (by
                have h1 := (bag_perm N k s nm B l.length).length_eq
                have h2 : (bagT N k s nm B (j + 1) l.length).length ≤ (bagT N k s nm B 0 l.length).length := HTL.out N B (j + 1) l.length
                omega))
              clear hv2 hb2
              go_wp2_with fail
              refine LV.out.mono ?_
              rintro r2 w3 ⟨rfl, hr3, hk3⟩
              have HR10 := hid hr3
              have HS10 := hid (HLK.out.stay w2 w3 F' HS9.out hk3)
              have HK10 := hid (HK9.out.trans hk3 (fun _ _ c => .inl c))
              clear hr3 hk3
              go_wp2
              go_roundg (gk - 1)
              case measure => omega
              case rel => exact ⟨j + 1, m + (bro k s nm j).length, by go_num, by omega, HR10, HS10, HK10, hid (by rw [blen]; omega)⟩
            · have hjl : j = l.length := by omega
              subst hjl
              have HR11 := hid (show Rdr W0 rb p N mb most (.func (.func g) #[] cb) B m Y from by have := HR8.out; rw [bagT_end] at this; exact this)
              have htk : l.take l.length = l := List.take_length
              have HMM := hid (show m ≤ n + 2 * (1 + s.length + namesMass nm + massL l) by
                rw [htk] at hn1
                omega)
              go_wp2
              go_ret
              rw [HES.out, HT.out]
              exact ⟨rfl, HS8.out, HK8.out, fun _ => HR11.out.mono HMM.out⟩
end Go.Proofs.YtlhhjocfbafoeaaGreatDoor.Xp
