/- Layer 5: contract of begin, all cases. | Layer 5: contract of begin: an element that opens; all cases. | Layer 5: contracts of a text outside of all elements, and of token. -/
import Derived.Test.YthodmdfbahkflaaGreatDoorTrB
import Derived.Test.YthodmdfbahkflaaGreatDoorTrA
import Derived.Test.YthodmdfbahkflaaGreatDoorShelf3
import Derived.Shelf.Strings.SlTrimAscii
set_option linter.unusedVariables false
set_option linter.unusedSimpArgs false
namespace Go.Proofs.YthodmdfbahkflaaGreatDoor.Tree
open Go Go.Proofs.YthodmdfbahkflaaGreatDoor Go.Proofs.YthodmdfbahkflaaGreatDoor.Utf Go.Proofs.YthodmdfbahkflaaGreatDoor.Names Go.Proofs.YthodmdfbahkflaaGreatDoor.Ent Go.Proofs.YthodmdfbahkflaaGreatDoor.Tok Go.RowKit
set_option maxRecDepth 100000
section
variable {s : Bs} {t : Tok}
theorem beginT_w {x : Int × Nat} (hd : s.outer.isSome = false) (hl : s.opn.length ≠ 200) (hw : within s.given t.attrs = .error x) : beginT s t = .error x := by
  unfold beginT; rw [if_neg (by rw [hd]; decide), if_neg hl, hw]
theorem beginT_n {g : Sp} {e : Nat} (hd : s.outer.isSome = false) (hl : s.opn.length ≠ 200) (hw : within s.given t.attrs = .ok g) (hn : nameIn g t.s ((get g []).getD []) = .error e) : beginT s t = .error (t.place, e) := by
  unfold beginT; rw [if_neg (by rw [hd]; decide), if_neg hl, hw]; dsimp only; rw [hn]
theorem beginT_a {g : Sp} {nm : Nm} {x : Int × Nat} (hd : s.outer.isSome = false) (hl : s.opn.length ≠ 200) (hw : within s.given t.attrs = .ok g) (hn : nameIn g t.s ((get g []).getD []) = .ok nm) (ha : attrsIn g [] t.attrs = .error x) : beginT s t = .error x := by
  unfold beginT; rw [if_neg (by rw [hd]; decide), if_neg hl, hw]; dsimp only; rw [hn]; dsimp only; rw [ha]
theorem beginT_k {g : Sp} {nm : Nm} {l : List Att} (hd : s.outer.isSome = false) (hl : s.opn.length ≠ 200) (hw : within s.given t.attrs = .ok g) (hn : nameIn g t.s ((get g []).getD []) = .ok nm) (ha : attrsIn g [] t.attrs = .ok l) :
    beginT s t = .ok (if t.kind = 2 then addN s (.mk t.place nm l [] []) else { s with opn := ⟨t.place, nm, l, [], t.s, g⟩ :: s.opn }) := by
  unfold beginT; rw [if_neg (by rw [hd]; decide), if_neg hl, hw]; dsimp only; rw [hn]; dsimp only; rw [ha]
end
/-- What may be asked of a token that begins an element. -/
structure TokOk (w : World) (t : Tok) (v : Value) : Prop where
  prs : Prs w v t.attrs
  few : t.attrs.length ≤ 1000000
  len : ∀ p ∈ t.attrs, p.name.length ≤ 1000000 ∧ p.value.length ≤ 4000000
  s : t.s.length ≤ 281474976710656
structure GivOk (s : Bs) : Prop where
  spl : SpL 4000000 s.given
  few : s.given.length ≤ 1000000000000
section
variable {W w : World} {r : Nat} {s : Bs} {ov tv : Value} {es : List Ev} {tx : List (Tok × Value)} {o : Node × Value × Value}
set_option maxHeartbeats 8000000
theorem begin_w (h : Bd W r s ov tv es tx o w) (hsl : Sl tx) (hs : Sml s) (hd : s.outer.isSome = false) (hl : s.opn.length ≠ 200) (t : Tok) (ao : Option Addr) (an ac : Nat) (ht : TokOk w t (.slice ao an ac)) (hgo : GivOk s) {x : Int × Nat} (hw : within s.given t.attrs = .error x) :
    Calls Tryz.prog 21 #[.pointer (some ⟨r, 0, none⟩), tokV t (.slice ao an ac)] w fun e w' => GotG W r (beginT s t) e w' := by
  have hlt := h.lt
  have c8 := h.done
  rw [hd] at c8
  have c0 : w.cell? ⟨r, 0, none⟩ = some ov := by rw [Lib.cell_of_heap h.cur]; rfl
  have hm : es.length ≤ 1000000 := by rw [h.len]; exact hs.1
  have olen := own_len (P := Tryz.prog) h.own 46 3 undE
  have hq : ((es.length : Int) == 200) = false := by rw [beq_eq_false_iff_ne]; have := h.len; omega
  have B1 := ba (b0 w) (.cells #[.int .i64 t.kind, .int .i64 t.place, .string (text t.s), .slice ao an ac] 45)
  have N1 : (w.alloc (.cells #[.int .i64 t.kind, .int .i64 t.place, .string (text t.s), .slice ao an ac] 45)).heap[w.heap.size]? = some (.cells #[.int .i64 t.kind, .int .i64 t.place, .string (text t.s), .slice ao an ac] 45) := heap_alloc_new w _
  have GVN := hid (fun (Y : World) (hY : Below w.heap.size w Y) => given_any (h.later hY) hm)
  have HP := hid ht.prs
  have H := hid h
  have HN1 := hid N1
  have HB1 := hid B1
  have WTH0 := hid (fun (Y : World) (gb : Nat) (hS : Spc Y gb s.given) (hY : Below w.heap.size w Y) => within_any s.given gb t.attrs (.slice ao an ac) Y hS (ht.prs.below hY (Nat.le_refl _)) ht.few ht.len hgo.few)
  have E := hid (beginT_w hd hl hw)
  have hx2 : ((x.2 : Int) != 0) = true := by rw [bne_iff_ne]; have := within_err _ _ _ hw; omega
  have WTH := hid (fun (Y : World) (gb : Nat) (hS : Spc Y gb s.given) (hY : Below w.heap.size w Y) => (WTH0.out Y gb hS hY).mono (R' := fun e w' => e = .returned (.tuple #[.map none, .int .i64 x.1, .int .i64 x.2]) ∧ Below Y.heap.size Y w') (fun e w' hh => ⟨by have := hh.1; rw [hw] at this; exact this, hh.2⟩))
  clear h hd hl hw N1 B1 WTH0 ht hgo hs
  unfold tokV
  go_enter Tryz.func21, Tryz.ntmps21
  go_wp2_with fail
  go_region_with (first
    | (go_at_call 36
       refine (GVN.out _ HB1.out.drew).mono ?_
       rintro e w1 ⟨⟨gb, rfl, hs1⟩, hb1⟩
       have p1 := (hb1.block _ (show w.heap.size < _ by simp [World.drew])).trans HN1.out
       have k3 : w1.cell? ⟨w.heap.size, 3, none⟩ = some (.slice ao an ac) := by rw [Lib.cell_of_heap p1]; rfl
       have HB2 := hid (HB1.out.drew.trans (hb1.mono HB1.out.drew.size))
       have HS1 := hid hs1
       have P1 := hid p1
       clear hb1 p1 hs1)
    | (go_at_call 37
       refine (WTH.out _ _ HS1.out HB2.out).mono ?_
       rintro e w2 ⟨rfl, hb2⟩
       have HB3 := hid (HB2.out.trans (hb2.mono HB2.out.size))
       clear hb2))
  all_goals go_wp2
  all_goals go_ret2
  all_goals (rw [E.out]; exact ⟨rfl, H.out.old.trans (HB3.out.mono H.out.old.size)⟩)
theorem begin_n (h : Bd W r s ov tv es tx o w) (hsl : Sl tx) (hs : Sml s) (hd : s.outer.isSome = false) (hl : s.opn.length ≠ 200) (t : Tok) (ao : Option Addr) (an ac : Nat) (ht : TokOk w t (.slice ao an ac)) (hgo : GivOk s) {g : Sp} {x : Nat} (hw : within s.given t.attrs = .ok g) (hn : nameIn g t.s ((get g []).getD []) = .error x) :
    Calls Tryz.prog 21 #[.pointer (some ⟨r, 0, none⟩), tokV t (.slice ao an ac)] w fun e w' => GotG W r (beginT s t) e w' := by
  have hlt := h.lt
  have c8 := h.done
  rw [hd] at c8
  have c0 : w.cell? ⟨r, 0, none⟩ = some ov := by rw [Lib.cell_of_heap h.cur]; rfl
  have hm : es.length ≤ 1000000 := by rw [h.len]; exact hs.1
  have olen := own_len (P := Tryz.prog) h.own 46 3 undE
  have hq : ((es.length : Int) == 200) = false := by rw [beq_eq_false_iff_ne]; have := h.len; omega
  have B1 := ba (b0 w) (.cells #[.int .i64 t.kind, .int .i64 t.place, .string (text t.s), .slice ao an ac] 45)
  have N1 : (w.alloc (.cells #[.int .i64 t.kind, .int .i64 t.place, .string (text t.s), .slice ao an ac] 45)).heap[w.heap.size]? = some (.cells #[.int .i64 t.kind, .int .i64 t.place, .string (text t.s), .slice ao an ac] 45) := heap_alloc_new w _
  have GVN := hid (fun (Y : World) (hY : Below w.heap.size w Y) => given_any (h.later hY) hm)
  have HP := hid ht.prs
  have H := hid h
  have HN1 := hid N1
  have HB1 := hid B1
  have WTH0 := hid (fun (Y : World) (gb : Nat) (hS : Spc Y gb s.given) (hY : Below w.heap.size w Y) => within_any s.given gb t.attrs (.slice ao an ac) Y hS (ht.prs.below hY (Nat.le_refl _)) ht.few ht.len hgo.few)
  have E := hid (beginT_n hd hl hw hn)
  have hx2 : ((x : Int) != 0) = true := by rw [bne_iff_ne]; have := nameIn_err hn; omega
  have WTH := hid (fun (Y : World) (gb : Nat) (hS : Spc Y gb s.given) (hY : Below w.heap.size w Y) => (WTH0.out Y gb hS hY).mono (R' := fun e w' => (∃ b', e = .returned (.tuple #[.map (some b'), .int .i64 0, .int .i64 0]) ∧ Spc w' b' g) ∧ Below Y.heap.size Y w') (fun e w' hh => ⟨by
    have := hh.1
    rw [hw] at this
    obtain ⟨b', h1, h2, _⟩ := this
    exact ⟨b', h1, h2⟩, hh.2⟩))
  have NMC := hid (fun (Y : World) (b : Nat) (hS : Spc Y b g) => name_any g b t.s ((get g []).getD []) Y hS ht.s)
  rw [hn] at NMC
  dsimp only [nmV] at NMC
  clear h hd hl hw N1 B1 WTH0 ht hgo hs hn
  unfold tokV
  go_enter Tryz.func21, Tryz.ntmps21
  go_wp2_with fail
  go_region_with (first
    | (go_at_call 36
       refine (GVN.out _ HB1.out.drew).mono ?_
       rintro e w1 ⟨⟨gb, rfl, hs1⟩, hb1⟩
       have p1 := (hb1.block _ (show w.heap.size < _ by simp [World.drew])).trans HN1.out
       have k3 : w1.cell? ⟨w.heap.size, 3, none⟩ = some (.slice ao an ac) := by rw [Lib.cell_of_heap p1]; rfl
       have HB2 := hid (HB1.out.drew.trans (hb1.mono HB1.out.drew.size))
       have HS1 := hid hs1
       have P1 := hid p1
       clear hb1 p1 hs1)
    | (go_at_call 37
       refine (WTH.out _ _ HS1.out HB2.out).mono ?_
       rintro e w2 ⟨⟨g2, rfl, hs2⟩, hb2⟩
       have HB3 := hid (HB2.out.trans (hb2.mono HB2.out.size))
       have p2 := (hb2.block _ (lt_of_some P1.out)).trans P1.out
       have P2 := hid p2
       have m2 : w2.cell? ⟨w.heap.size, 2, none⟩ = some (.string (text t.s)) := by rw [Lib.cell_of_heap p2]; rfl
       have m1 : w2.cell? ⟨w.heap.size, 1, none⟩ = some (.int .i64 t.place) := by rw [Lib.cell_of_heap p2]; rfl
       have HS2 := hid hs2
       have hlk := hs2.look [] (by simp)
       rw [show text [] = (⟨#[]⟩ : ByteArray) from rfl] at hlk
       clear hb2 p2 hs2))
  all_goals go_wp2_with fail
  all_goals refine (NMC.out _ _ HS2.out).mono ?_
  all_goals rintro e w3 ⟨rfl, hb3⟩
  all_goals have p3 := (hb3.block _ (lt_of_some P2.out)).trans P2.out
  all_goals have P3 := hid p3
  all_goals have HB4 := hid (HB3.out.trans (hb3.mono HB3.out.size))
  all_goals have HS3 := hid (HS2.out.later hb3)
  all_goals clear hb3 p3 hlk
  all_goals have B5 := ba (b0 w3) (.cells #[.string ⟨#[]⟩, .string ⟨#[]⟩] 28)
  all_goals have p5 := (B5.block _ (lt_of_some P3.out)).trans P3.out
  all_goals have n1 := Lib.cell_of_heap p5 1
  all_goals have HB5 := hid (HB4.out.trans (B5.mono HB4.out.size))
  all_goals clear B5 p5
  all_goals go_wp2
  all_goals go_ret2
  all_goals (rw [E.out]; exact ⟨rfl, H.out.old.trans (HB5.out.mono H.out.old.size)⟩)
theorem begin_a (h : Bd W r s ov tv es tx o w) (hsl : Sl tx) (hs : Sml s) (hd : s.outer.isSome = false) (hl : s.opn.length ≠ 200) (t : Tok) (ao : Option Addr) (an ac : Nat) (ht : TokOk w t (.slice ao an ac)) (hgo : GivOk s) {g : Sp} {nm : Nm} {x : Int × Nat} (hw : within s.given t.attrs = .ok g) (hn : nameIn g t.s ((get g []).getD []) = .ok nm) (ha : attrsIn g [] t.attrs = .error x) :
    Calls Tryz.prog 21 #[.pointer (some ⟨r, 0, none⟩), tokV t (.slice ao an ac)] w fun e w' => GotG W r (beginT s t) e w' := by
  have hlt := h.lt
  have c8 := h.done
  rw [hd] at c8
  have c0 : w.cell? ⟨r, 0, none⟩ = some ov := by rw [Lib.cell_of_heap h.cur]; rfl
  have hm : es.length ≤ 1000000 := by rw [h.len]; exact hs.1
  have olen := own_len (P := Tryz.prog) h.own 46 3 undE
  have hq : ((es.length : Int) == 200) = false := by rw [beq_eq_false_iff_ne]; have := h.len; omega
  have B1 := ba (b0 w) (.cells #[.int .i64 t.kind, .int .i64 t.place, .string (text t.s), .slice ao an ac] 45)
  have N1 : (w.alloc (.cells #[.int .i64 t.kind, .int .i64 t.place, .string (text t.s), .slice ao an ac] 45)).heap[w.heap.size]? = some (.cells #[.int .i64 t.kind, .int .i64 t.place, .string (text t.s), .slice ao an ac] 45) := heap_alloc_new w _
  have GVN := hid (fun (Y : World) (hY : Below w.heap.size w Y) => given_any (h.later hY) hm)
  have HP := hid ht.prs
  have H := hid h
  have HN1 := hid N1
  have HB1 := hid B1
  have WTH0 := hid (fun (Y : World) (gb : Nat) (hS : Spc Y gb s.given) (hY : Below w.heap.size w Y) => within_any s.given gb t.attrs (.slice ao an ac) Y hS (ht.prs.below hY (Nat.le_refl _)) ht.few ht.len hgo.few)
  have E := hid (beginT_a hd hl hw hn ha)
  have hx2 : ((x.2 : Int) != 0) = true := by rw [bne_iff_ne]; have := attrsIn_err _ _ _ _ ha; omega
  have WTH := hid (fun (Y : World) (gb : Nat) (hS : Spc Y gb s.given) (hY : Below w.heap.size w Y) => (WTH0.out Y gb hS hY).mono (R' := fun e w' => (∃ b', e = .returned (.tuple #[.map (some b'), .int .i64 0, .int .i64 0]) ∧ Spc w' b' g) ∧ Below Y.heap.size Y w') (fun e w' hh => ⟨by
    have := hh.1
    rw [hw] at this
    obtain ⟨b', h1, h2, _⟩ := this
    exact ⟨b', h1, h2⟩, hh.2⟩))
  have NMC := hid (fun (Y : World) (b : Nat) (hS : Spc Y b g) => name_any g b t.s ((get g []).getD []) Y hS ht.s)
  rw [hn] at NMC
  dsimp only [nmV] at NMC
  have ATC0 := hid (fun (Y : World) (b : Nat) (hS : Spc Y b g) (hY : Below w.heap.size w Y) => attributes_any g b t.attrs (.slice ao an ac) Y hS (ht.prs.below hY (Nat.le_refl _)) ht.few ht.len (within_spl t.attrs s.given g 4000000 hw hgo.spl (fun p hp => (ht.len p hp).2)).1)
  have ATC := hid (fun (Y : World) (b : Nat) (hS : Spc Y b g) (hY : Below w.heap.size w Y) => (ATC0.out Y b hS hY).mono (R' := fun e w' => e = .returned (.tuple #[.slice none 0 0, .int .i64 x.1, .int .i64 x.2]) ∧ Below Y.heap.size Y w') (fun e w' hh => ⟨by have := hh.1; rw [ha] at this; exact this, hh.2⟩))
  clear h hd hl hw N1 B1 WTH0 ATC0 ht hgo hs hn ha
  unfold tokV
  go_enter Tryz.func21, Tryz.ntmps21
  go_wp2_with fail
  go_region_with (first
    | (go_at_call 36
       refine (GVN.out _ HB1.out.drew).mono ?_
       rintro e w1 ⟨⟨gb, rfl, hs1⟩, hb1⟩
       have p1 := (hb1.block _ (show w.heap.size < _ by simp [World.drew])).trans HN1.out
       have k3 : w1.cell? ⟨w.heap.size, 3, none⟩ = some (.slice ao an ac) := by rw [Lib.cell_of_heap p1]; rfl
       have HB2 := hid (HB1.out.drew.trans (hb1.mono HB1.out.drew.size))
       have HS1 := hid hs1
       have P1 := hid p1
       clear hb1 p1 hs1)
    | (go_at_call 37
       refine (WTH.out _ _ HS1.out HB2.out).mono ?_
       rintro e w2 ⟨⟨g2, rfl, hs2⟩, hb2⟩
       have HB3 := hid (HB2.out.trans (hb2.mono HB2.out.size))
       have p2 := (hb2.block _ (lt_of_some P1.out)).trans P1.out
       have P2 := hid p2
       have m2 : w2.cell? ⟨w.heap.size, 2, none⟩ = some (.string (text t.s)) := by rw [Lib.cell_of_heap p2]; rfl
       have m1 : w2.cell? ⟨w.heap.size, 1, none⟩ = some (.int .i64 t.place) := by rw [Lib.cell_of_heap p2]; rfl
       have HS2 := hid hs2
       have hlk := hs2.look [] (by simp)
       rw [show text [] = (⟨#[]⟩ : ByteArray) from rfl] at hlk
       clear hb2 p2 hs2))
  all_goals go_wp2_with fail
  all_goals refine (NMC.out _ _ HS2.out).mono ?_
  all_goals rintro e w3 ⟨rfl, hb3⟩
  all_goals have p3 := (hb3.block _ (lt_of_some P2.out)).trans P2.out
  all_goals have P3 := hid p3
  all_goals have HB4 := hid (HB3.out.trans (hb3.mono HB3.out.size))
  all_goals have HS3 := hid (HS2.out.later hb3)
  all_goals clear hb3 p3 hlk
  all_goals have B5 := ba (b0 w3) (.cells #[.string (text nm.1), .string (text nm.2)] 28)
  all_goals have p5 := (B5.block _ (lt_of_some P3.out)).trans P3.out
  all_goals have n5 := heap_alloc_new w3 (.cells #[.string (text nm.1), .string (text nm.2)] 28)
  all_goals have x3 : (w3.alloc (.cells #[.string (text nm.1), .string (text nm.2)] 28)).cell? ⟨w.heap.size, 3, none⟩ = some (.slice ao an ac) := by rw [Lib.cell_of_heap p5]; rfl
  all_goals have P5 := hid p5
  all_goals have N5 := hid n5
  all_goals have HB5 := hid (HB4.out.trans (B5.mono HB4.out.size))
  all_goals have HS5 := hid (HS3.out.later B5)
  all_goals clear B5 p5 n5
  all_goals go_wp2_with fail
  all_goals refine (ATC.out _ _ HS5.out HB5.out).mono ?_
  all_goals rintro e w6 ⟨rfl, hb6⟩
  all_goals have HB6 := hid (HB5.out.trans (hb6.mono HB5.out.size))
  all_goals clear hb6
  all_goals go_wp2
  all_goals go_ret2
  all_goals (rw [E.out]; exact ⟨rfl, H.out.old.trans (HB6.out.mono H.out.old.size)⟩)
theorem attrsIn_few : ∀ (l : List Pr) (g : Sp) (seen : List Nm) (al : List Att), attrsIn g seen l = .ok al → al.length ≤ l.length
  | [], g, seen, al, h => by unfold attrsIn at h; injection h with h; subst h; simp
  | p :: r, g, seen, al, h => by
    unfold attrsIn at h
    split at h
    · have := attrsIn_few r g seen al h; simp; omega
    · cases hn : nameIn g p.name [] with
      | error e => rw [hn] at h; cases h
      | ok nm =>
        rw [hn] at h
        dsimp only at h
        split at h
        · cases h
        · cases hr : attrsIn g (nm :: seen) r with
          | error x => rw [hr] at h; cases h
          | ok xs =>
            rw [hr] at h
            injection h with h
            subst h
            have := attrsIn_few r g _ xs hr
            simp; omega
theorem begin_e (h : Bd W r s ov tv es tx o w) (hsl : Sl tx) (hs : Sml s) (hd : s.outer.isSome = false) (hl : s.opn.length ≠ 200) (t : Tok) (ao : Option Addr) (an ac : Nat) (ht : TokOk w t (.slice ao an ac)) (hgo : GivOk s) {g : Sp} {nm : Nm} {l : List Att} (hw : within s.given t.attrs = .ok g) (hn : nameIn g t.s ((get g []).getD []) = .ok nm) (ha : attrsIn g [] t.attrs = .ok l) (hk : t.kind = 2) :
    Calls Tryz.prog 21 #[.pointer (some ⟨r, 0, none⟩), tokV t (.slice ao an ac)] w fun e w' => GotG W r (beginT s t) e w' := by
  have hlt := h.lt
  have c8 := h.done
  rw [hd] at c8
  have c0 : w.cell? ⟨r, 0, none⟩ = some ov := by rw [Lib.cell_of_heap h.cur]; rfl
  have hm : es.length ≤ 1000000 := by rw [h.len]; exact hs.1
  have olen := own_len (P := Tryz.prog) h.own 46 3 undE
  have hq : ((es.length : Int) == 200) = false := by rw [beq_eq_false_iff_ne]; have := h.len; omega
  have B1 := ba (b0 w) (.cells #[.int .i64 t.kind, .int .i64 t.place, .string (text t.s), .slice ao an ac] 45)
  have N1 : (w.alloc (.cells #[.int .i64 t.kind, .int .i64 t.place, .string (text t.s), .slice ao an ac] 45)).heap[w.heap.size]? = some (.cells #[.int .i64 t.kind, .int .i64 t.place, .string (text t.s), .slice ao an ac] 45) := heap_alloc_new w _
  have GVN := hid (fun (Y : World) (hY : Below w.heap.size w Y) => given_any (h.later hY) hm)
  have HP := hid ht.prs
  have H := hid h
  have HN1 := hid N1
  have HB1 := hid B1
  have WTH0 := hid (fun (Y : World) (gb : Nat) (hS : Spc Y gb s.given) (hY : Below w.heap.size w Y) => within_any s.given gb t.attrs (.slice ao an ac) Y hS (ht.prs.below hY (Nat.le_refl _)) ht.few ht.len hgo.few)
  have hal : l.length ≤ 281474976710656 := by have := attrsIn_few _ _ _ _ ha; have := ht.few; omega
  have WTH := hid (fun (Y : World) (gb : Nat) (hS : Spc Y gb s.given) (hY : Below w.heap.size w Y) => (WTH0.out Y gb hS hY).mono (R' := fun e w' => (∃ b', e = .returned (.tuple #[.map (some b'), .int .i64 0, .int .i64 0]) ∧ Spc w' b' g) ∧ Below Y.heap.size Y w') (fun e w' hh => ⟨by
    have := hh.1
    rw [hw] at this
    obtain ⟨b', h1, h2, _⟩ := this
    exact ⟨b', h1, h2⟩, hh.2⟩))
  have NMC := hid (fun (Y : World) (b : Nat) (hS : Spc Y b g) => name_any g b t.s ((get g []).getD []) Y hS ht.s)
  rw [hn] at NMC
  dsimp only [nmV] at NMC
  have ATC0 := hid (fun (Y : World) (b : Nat) (hS : Spc Y b g) (hY : Below w.heap.size w Y) => attributes_any g b t.attrs (.slice ao an ac) Y hS (ht.prs.below hY (Nat.le_refl _)) ht.few ht.len (within_spl t.attrs s.given g 4000000 hw hgo.spl (fun p hp => (ht.len p hp).2)).1)
  have ATC := hid (fun (Y : World) (b : Nat) (hS : Spc Y b g) (hY : Below w.heap.size w Y) => (ATC0.out Y b hS hY).mono (R' := fun e w' => (∃ o n c, e = .returned (.tuple #[.slice o n c, .int .i64 0, .int .i64 0]) ∧ OwnA Y.heap.size w' (.slice o n c) l) ∧ Below Y.heap.size Y w') (fun e w' hh => ⟨by
    have := hh.1
    rw [ha] at this
    obtain ⟨v, h1, h2⟩ := this
    rcases h2.2 with ⟨h3, _⟩ | ⟨q, cap, cur, h3, _⟩
    · rw [h3] at h1 h2; exact ⟨_, _, _, h1, h2⟩
    · rw [h3] at h1 h2; exact ⟨_, _, _, h1, h2⟩, hh.2⟩))
  have E := hid (show beginT s t = .ok (addN s (.mk t.place nm l [] [])) by rw [beginT_k hd hl hw hn ha, if_pos hk])
  have hkk : (t.kind == 2) = true := by rw [hk]; rfl
  have AD := hid (fun (Y : World) (vo : Option Addr) (vn vc : Nat) (hY : Bd W r s ov tv es tx o Y) (hA : Atts Y (Up W (Act r ov tv es)) (.slice vo vn vc) l) => (add_any hY hs (.mk t.place nm l [] []) (.slice vo vn vc) (.slice none 0 0) (IsN.of hA (Kids.nil _ _)) : Calls Tryz.prog 34 #[.pointer (some ⟨r, 0, none⟩), .agg #[.int .i64 t.place, .string (text nm.1), .string (text nm.2), .slice vo vn vc, .slice none 0 0, .string ⟨#[]⟩]] Y _))
  have HAL := hid hal
  clear h hd hl hw N1 B1 WTH0 ATC0 ht hgo hs hn ha hk hal
  unfold tokV
  go_enter Tryz.func21, Tryz.ntmps21
  go_wp2_with fail
  go_region_with (first
    | (go_at_call 36
       refine (GVN.out _ HB1.out.drew).mono ?_
       rintro e w1 ⟨⟨gb, rfl, hs1⟩, hb1⟩
       have p1 := (hb1.block _ (show w.heap.size < _ by simp [World.drew])).trans HN1.out
       have k3 : w1.cell? ⟨w.heap.size, 3, none⟩ = some (.slice ao an ac) := by rw [Lib.cell_of_heap p1]; rfl
       have HB2 := hid (HB1.out.drew.trans (hb1.mono HB1.out.drew.size))
       have HS1 := hid hs1
       have P1 := hid p1
       clear hb1 p1 hs1)
    | (go_at_call 37
       refine (WTH.out _ _ HS1.out HB2.out).mono ?_
       rintro e w2 ⟨⟨g2, rfl, hs2⟩, hb2⟩
       have HB3 := hid (HB2.out.trans (hb2.mono HB2.out.size))
       have p2 := (hb2.block _ (lt_of_some P1.out)).trans P1.out
       have P2 := hid p2
       have m2 : w2.cell? ⟨w.heap.size, 2, none⟩ = some (.string (text t.s)) := by rw [Lib.cell_of_heap p2]; rfl
       have m1 : w2.cell? ⟨w.heap.size, 1, none⟩ = some (.int .i64 t.place) := by rw [Lib.cell_of_heap p2]; rfl
       have HS2 := hid hs2
       have hlk := hs2.look [] (by simp)
       rw [show text [] = (⟨#[]⟩ : ByteArray) from rfl] at hlk
       clear hb2 p2 hs2))
  all_goals go_wp2_with fail
  all_goals refine (NMC.out _ _ HS2.out).mono ?_
  all_goals rintro e w3 ⟨rfl, hb3⟩
  all_goals have p3 := (hb3.block _ (lt_of_some P2.out)).trans P2.out
  all_goals have P3 := hid p3
  all_goals have HB4 := hid (HB3.out.trans (hb3.mono HB3.out.size))
  all_goals have HS3 := hid (HS2.out.later hb3)
  all_goals clear hb3 p3 hlk
  all_goals have B5 := ba (b0 w3) (.cells #[.string (text nm.1), .string (text nm.2)] 28)
  all_goals have p5 := (B5.block _ (lt_of_some P3.out)).trans P3.out
  all_goals have n5 := heap_alloc_new w3 (.cells #[.string (text nm.1), .string (text nm.2)] 28)
  all_goals have x3 : (w3.alloc (.cells #[.string (text nm.1), .string (text nm.2)] 28)).cell? ⟨w.heap.size, 3, none⟩ = some (.slice ao an ac) := by rw [Lib.cell_of_heap p5]; rfl
  all_goals have P5 := hid p5
  all_goals have N5 := hid n5
  all_goals have HB5 := hid (HB4.out.trans (B5.mono HB4.out.size))
  all_goals have HS5 := hid (HS3.out.later B5)
  all_goals clear B5 p5 n5
  all_goals go_wp2_with fail
  all_goals refine (ATC.out _ _ HS5.out HB5.out).mono ?_
  all_goals rintro e w6 ⟨⟨vo, vn, vc, rfl, ho6⟩, hb6⟩
  all_goals have p6 := (hb6.block _ (lt_of_some P5.out)).trans P5.out
  all_goals have n6 := (hb6.block _ (lt_of_some N5.out)).trans N5.out
  all_goals have y0 : w6.cell? ⟨w.heap.size, 0, none⟩ = some (.int .i64 t.kind) := by rw [Lib.cell_of_heap p6]; rfl
  all_goals have y1 : w6.cell? ⟨w.heap.size, 1, none⟩ = some (.int .i64 t.place) := by rw [Lib.cell_of_heap p6]; rfl
  all_goals have y2 : w6.cell? ⟨w.heap.size, 2, none⟩ = some (.string (text t.s)) := by rw [Lib.cell_of_heap p6]; rfl
  all_goals have z0 : w6.cell? ⟨w3.heap.size, 0, none⟩ = some (.string (text nm.1)) := by rw [Lib.cell_of_heap n6]; rfl
  all_goals have z1 : w6.cell? ⟨w3.heap.size, 1, none⟩ = some (.string (text nm.2)) := by rw [Lib.cell_of_heap n6]; rfl
  all_goals have HB6 := hid (HB5.out.trans (hb6.mono HB5.out.size))
  all_goals have HS6 := hid (HS5.out.later hb6)
  all_goals have HO6 := hid ho6
  all_goals have hlow : w.heap.size ≤ w3.heap.size := HB4.out.size
  all_goals have HD6 := hid (H.out.later HB6.out)
  all_goals have HAT := hid (OwnA.atts (w0 := w3.alloc (.cells #[.string (text nm.1), .string (text nm.2)] 28)) HD6.out (Nat.le_trans H.out.old.size HB5.out.size) hb6 (fun b hA => by have := (H.out.act hA).2.1; simp; omega) ho6 HAL.out)
  all_goals clear hb6 p6 n6 ho6 x3
  all_goals have B7 := ba (b0 w6) (.cells #[.int .i64 t.place, .string (text nm.1), .string (text nm.2), .slice vo vn vc, .slice none 0 0, .string ⟨#[]⟩] 32)
  all_goals have HD7 := hid (HD6.out.later B7)
  all_goals have HA7 := hid (HAT.out.to (fun _ _ x => x) (Keep.of_below B7))
  all_goals have hlw : w.heap.size < w6.heap.size := World.block_lt_of_cell? _ _ y0
  all_goals have t0 : (w6.alloc (.cells #[.int .i64 t.place, .string (text nm.1), .string (text nm.2), .slice vo vn vc, .slice none 0 0, .string ⟨#[]⟩] 32)).cell? ⟨w.heap.size, 0, none⟩ = some (.int .i64 t.kind) := (B7.cell (p := ⟨w.heap.size, 0, none⟩) hlw).trans y0
  all_goals clear B7
  all_goals go_wp2_with fail
  all_goals refine (AD.out _ _ _ _ HD7.out HA7.out).mono ?_
  all_goals rintro e w8 ⟨rfl, ⟨es', o', hb8, _⟩, _⟩
  all_goals have HB8 := hid hb8
  all_goals clear hb8
  all_goals go_wp2
  all_goals go_ret2
  all_goals (rw [E.out]; exact ⟨rfl, _, _, _, _, _, HB8.out, hsl⟩)
end
end Go.Proofs.YthodmdfbahkflaaGreatDoor.Tree
namespace Go.Proofs.YthodmdfbahkflaaGreatDoor.Tree
open Go Go.Proofs.YthodmdfbahkflaaGreatDoor Go.Proofs.YthodmdfbahkflaaGreatDoor.Utf Go.Proofs.YthodmdfbahkflaaGreatDoor.Names Go.Proofs.YthodmdfbahkflaaGreatDoor.Ent Go.Proofs.YthodmdfbahkflaaGreatDoor.Tok Go.RowKit
set_option maxRecDepth 100000
section
variable {W w : World} {r : Nat} {s : Bs} {ov tv : Value} {es : List Ev} {tx : List (Tok × Value)} {o : Node × Value × Value}
set_option maxHeartbeats 8000000
theorem begin_o (h : Bd W r s ov tv es tx o w) (hsl : Sl tx) (hs : Sml s) (hd : s.outer.isSome = false) (hl : s.opn.length ≠ 200) (t : Tok) (ao : Option Addr) (an ac : Nat) (ht : TokOk w t (.slice ao an ac)) (hgo : GivOk s) {g : Sp} {nm : Nm} {l : List Att} (hw : within s.given t.attrs = .ok g) (hn : nameIn g t.s ((get g []).getD []) = .ok nm) (ha : attrsIn g [] t.attrs = .ok l) (hk : t.kind ≠ 2) :
    Calls Tryz.prog 21 #[.pointer (some ⟨r, 0, none⟩), tokV t (.slice ao an ac)] w fun e w' => GotG W r (beginT s t) e w' := by
  have hlt := h.lt
  have c8 := h.done
  rw [hd] at c8
  have c0 : w.cell? ⟨r, 0, none⟩ = some ov := by rw [Lib.cell_of_heap h.cur]; rfl
  have hm : es.length ≤ 1000000 := by rw [h.len]; exact hs.1
  have olen := own_len (P := Tryz.prog) h.own 46 3 undE
  have hq : ((es.length : Int) == 200) = false := by rw [beq_eq_false_iff_ne]; have := h.len; omega
  have B1 := ba (b0 w) (.cells #[.int .i64 t.kind, .int .i64 t.place, .string (text t.s), .slice ao an ac] 45)
  have N1 : (w.alloc (.cells #[.int .i64 t.kind, .int .i64 t.place, .string (text t.s), .slice ao an ac] 45)).heap[w.heap.size]? = some (.cells #[.int .i64 t.kind, .int .i64 t.place, .string (text t.s), .slice ao an ac] 45) := heap_alloc_new w _
  have GVN := hid (fun (Y : World) (hY : Below w.heap.size w Y) => given_any (h.later hY) hm)
  have HP := hid ht.prs
  have H := hid h
  have HN1 := hid N1
  have HB1 := hid B1
  have WTH0 := hid (fun (Y : World) (gb : Nat) (hS : Spc Y gb s.given) (hY : Below w.heap.size w Y) => within_any s.given gb t.attrs (.slice ao an ac) Y hS (ht.prs.below hY (Nat.le_refl _)) ht.few ht.len hgo.few)
  have hal : l.length ≤ 281474976710656 := by have := attrsIn_few _ _ _ _ ha; have := ht.few; omega
  have WTH := hid (fun (Y : World) (gb : Nat) (hS : Spc Y gb s.given) (hY : Below w.heap.size w Y) => (WTH0.out Y gb hS hY).mono (R' := fun e w' => (∃ b', e = .returned (.tuple #[.map (some b'), .int .i64 0, .int .i64 0]) ∧ Spc w' b' g) ∧ Below Y.heap.size Y w') (fun e w' hh => ⟨by
    have := hh.1
    rw [hw] at this
    obtain ⟨b', h1, h2, _⟩ := this
    exact ⟨b', h1, h2⟩, hh.2⟩))
  have NMC := hid (fun (Y : World) (b : Nat) (hS : Spc Y b g) => name_any g b t.s ((get g []).getD []) Y hS ht.s)
  rw [hn] at NMC
  dsimp only [nmV] at NMC
  have ATC0 := hid (fun (Y : World) (b : Nat) (hS : Spc Y b g) (hY : Below w.heap.size w Y) => attributes_any g b t.attrs (.slice ao an ac) Y hS (ht.prs.below hY (Nat.le_refl _)) ht.few ht.len (within_spl t.attrs s.given g 4000000 hw hgo.spl (fun p hp => (ht.len p hp).2)).1)
  have ATC := hid (fun (Y : World) (b : Nat) (hS : Spc Y b g) (hY : Below w.heap.size w Y) => (ATC0.out Y b hS hY).mono (R' := fun e w' => (∃ o n c, e = .returned (.tuple #[.slice o n c, .int .i64 0, .int .i64 0]) ∧ OwnA Y.heap.size w' (.slice o n c) l) ∧ Below Y.heap.size Y w') (fun e w' hh => ⟨by
    have := hh.1
    rw [ha] at this
    obtain ⟨v, h1, h2⟩ := this
    rcases h2.2 with ⟨h3, _⟩ | ⟨q, cap, cur, h3, _⟩
    · rw [h3] at h1 h2; exact ⟨_, _, _, h1, h2⟩
    · rw [h3] at h1 h2; exact ⟨_, _, _, h1, h2⟩, hh.2⟩))
  obtain ⟨i0, hi0, hz0, hz1, hz2⟩ := info_parts infoE
  have E := hid (show beginT s t = .ok { s with opn := ⟨t.place, nm, l, [], t.s, g⟩ :: s.opn } by rw [beginT_k hd hl hw hn ha, if_neg hk])
  have hkk : (t.kind == 2) = false := by rw [beq_eq_false_iff_ne]; exact hk
  have HI := hid hi0
  have HAL := hid hal
  have OVR : Hid (∀ b, ov.ownBlock = some b → b ≠ r) := hid (fun b hb => h.ov_r hb)
  clear h hd hl hw N1 B1 WTH0 ATC0 ht hgo hs hn ha hk hal hi0
  unfold tokV
  go_enter Tryz.func21, Tryz.ntmps21
  go_wp2_with fail
  go_region_with (first
    | (go_at_call 36
       refine (GVN.out _ HB1.out.drew).mono ?_
       rintro e w1 ⟨⟨gb, rfl, hs1⟩, hb1⟩
       have p1 := (hb1.block _ (show w.heap.size < _ by simp [World.drew])).trans HN1.out
       have k3 : w1.cell? ⟨w.heap.size, 3, none⟩ = some (.slice ao an ac) := by rw [Lib.cell_of_heap p1]; rfl
       have HB2 := hid (HB1.out.drew.trans (hb1.mono HB1.out.drew.size))
       have HS1 := hid hs1
       have P1 := hid p1
       clear hb1 p1 hs1)
    | (go_at_call 37
       refine (WTH.out _ _ HS1.out HB2.out).mono ?_
       rintro e w2 ⟨⟨g2, rfl, hs2⟩, hb2⟩
       have HB3 := hid (HB2.out.trans (hb2.mono HB2.out.size))
       have p2 := (hb2.block _ (lt_of_some P1.out)).trans P1.out
       have P2 := hid p2
       have m2 : w2.cell? ⟨w.heap.size, 2, none⟩ = some (.string (text t.s)) := by rw [Lib.cell_of_heap p2]; rfl
       have m1 : w2.cell? ⟨w.heap.size, 1, none⟩ = some (.int .i64 t.place) := by rw [Lib.cell_of_heap p2]; rfl
       have HS2 := hid hs2
       have hlk := hs2.look [] (by simp)
       rw [show text [] = (⟨#[]⟩ : ByteArray) from rfl] at hlk
       clear hb2 p2 hs2))
  all_goals go_wp2_with fail
  all_goals refine (NMC.out _ _ HS2.out).mono ?_
  all_goals rintro e w3 ⟨rfl, hb3⟩
  all_goals have p3 := (hb3.block _ (lt_of_some P2.out)).trans P2.out
  all_goals have P3 := hid p3
  all_goals have HB4 := hid (HB3.out.trans (hb3.mono HB3.out.size))
  all_goals have HS3 := hid (HS2.out.later hb3)
  all_goals clear hb3 p3 hlk
  all_goals have B5 := ba (b0 w3) (.cells #[.string (text nm.1), .string (text nm.2)] 28)
  all_goals have p5 := (B5.block _ (lt_of_some P3.out)).trans P3.out
  all_goals have n5 := heap_alloc_new w3 (.cells #[.string (text nm.1), .string (text nm.2)] 28)
  all_goals have x3 : (w3.alloc (.cells #[.string (text nm.1), .string (text nm.2)] 28)).cell? ⟨w.heap.size, 3, none⟩ = some (.slice ao an ac) := by rw [Lib.cell_of_heap p5]; rfl
  all_goals have P5 := hid p5
  all_goals have N5 := hid n5
  all_goals have HB5 := hid (HB4.out.trans (B5.mono HB4.out.size))
  all_goals have HS5 := hid (HS3.out.later B5)
  all_goals clear B5 p5 n5
  all_goals go_wp2_with fail
  all_goals refine (ATC.out _ _ HS5.out HB5.out).mono ?_
  all_goals rintro e w6 ⟨⟨vo, vn, vc, rfl, ho6⟩, hb6⟩
  all_goals have p6 := (hb6.block _ (lt_of_some P5.out)).trans P5.out
  all_goals have n6 := (hb6.block _ (lt_of_some N5.out)).trans N5.out
  all_goals have y0 : w6.cell? ⟨w.heap.size, 0, none⟩ = some (.int .i64 t.kind) := by rw [Lib.cell_of_heap p6]; rfl
  all_goals have y1 : w6.cell? ⟨w.heap.size, 1, none⟩ = some (.int .i64 t.place) := by rw [Lib.cell_of_heap p6]; rfl
  all_goals have y2 : w6.cell? ⟨w.heap.size, 2, none⟩ = some (.string (text t.s)) := by rw [Lib.cell_of_heap p6]; rfl
  all_goals have z0 : w6.cell? ⟨w3.heap.size, 0, none⟩ = some (.string (text nm.1)) := by rw [Lib.cell_of_heap n6]; rfl
  all_goals have z1 : w6.cell? ⟨w3.heap.size, 1, none⟩ = some (.string (text nm.2)) := by rw [Lib.cell_of_heap n6]; rfl
  all_goals have HB6 := hid (HB5.out.trans (hb6.mono HB5.out.size))
  all_goals have HS6 := hid (HS5.out.later hb6)
  all_goals have HO6 := hid ho6
  all_goals have hlow : w.heap.size ≤ w3.heap.size := HB4.out.size
  all_goals have HD6 := hid (H.out.later HB6.out)
  all_goals have HAT := hid (OwnA.atts (w0 := w3.alloc (.cells #[.string (text nm.1), .string (text nm.2)] 28)) HD6.out (Nat.le_trans H.out.old.size HB5.out.size) hb6 (fun b hA => by have := (H.out.act hA).2.1; simp; omega) ho6 HAL.out)
  all_goals clear hb6 p6 n6 ho6 x3
  all_goals have B7 := ba (b0 w6) (.cells #[.int .i64 t.place, .string (text nm.1), .string (text nm.2), .slice vo vn vc, .slice none 0 0, .string ⟨#[]⟩] 32)
  all_goals have HB7 := hid (HB6.out.trans (B7.mono HB6.out.size))
  all_goals have HD7 := hid (HD6.out.later B7)
  all_goals have HA7 := hid (HAT.out.to (fun _ _ x => x) (Keep.of_below B7))
  all_goals have HS7 := hid (HS6.out.later B7)
  all_goals have hlw : w.heap.size < w6.heap.size := World.block_lt_of_cell? _ _ y0
  all_goals have t0 : (w6.alloc (.cells #[.int .i64 t.place, .string (text nm.1), .string (text nm.2), .slice vo vn vc, .slice none 0 0, .string ⟨#[]⟩] 32)).cell? ⟨w.heap.size, 0, none⟩ = some (.int .i64 t.kind) := (B7.cell (p := ⟨w.heap.size, 0, none⟩) hlw).trans y0
  all_goals have t2 : (w6.alloc (.cells #[.int .i64 t.place, .string (text nm.1), .string (text nm.2), .slice vo vn vc, .slice none 0 0, .string ⟨#[]⟩] 32)).cell? ⟨w.heap.size, 2, none⟩ = some (.string (text t.s)) := (B7.cell (p := ⟨w.heap.size, 2, none⟩) hlw).trans y2
  all_goals have c7 : (w6.alloc (.cells #[.int .i64 t.place, .string (text nm.1), .string (text nm.2), .slice vo vn vc, .slice none 0 0, .string ⟨#[]⟩] 32)).cell? ⟨r, 0, none⟩ = some ov := by rw [Lib.cell_of_heap HD7.out.cur]; rfl
  all_goals have f7 := Lib.frozen_of_heap HD7.out.cur 0
  all_goals have B8 := ba (b0 (w6.alloc (.cells #[.int .i64 t.place, .string (text nm.1), .string (text nm.2), .slice vo vn vc, .slice none 0 0, .string ⟨#[]⟩] 32))) (.cells #[.int .i64 t.place, .string (text nm.1), .string (text nm.2), .slice vo vn vc, .slice none 0 0, .string ⟨#[]⟩, .string (text t.s), .map (some g2)] 106)
  all_goals have HB8 := hid B8
  all_goals have HD8 := hid (HD7.out.later B8)
  all_goals have HA8 := hid (HA7.out.to (fun _ _ x => x) (Keep.of_below B8))
  all_goals have HS8 := hid (HS7.out.later B8)
  all_goals have HO8 := hid HD8.out.own
  all_goals have c8x : ((w6.alloc (.cells #[.int .i64 t.place, .string (text nm.1), .string (text nm.2), .slice vo vn vc, .slice none 0 0, .string ⟨#[]⟩] 32)).alloc (.cells #[.int .i64 t.place, .string (text nm.1), .string (text nm.2), .slice vo vn vc, .slice none 0 0, .string ⟨#[]⟩, .string (text t.s), .map (some g2)] 106)).cell? ⟨r, 0, none⟩ = some ov := by rw [Lib.cell_of_heap HD8.out.cur]; rfl
  all_goals have hlt8 := HD7.out.lt
  all_goals have hlow8 : W.heap.size ≤ (w6.alloc (.cells #[.int .i64 t.place, .string (text nm.1), .string (text nm.2), .slice vo vn vc, .slice none 0 0, .string ⟨#[]⟩] 32)).heap.size := HD7.out.old.size
  all_goals clear B7 B8
  all_goals go_wp2_with fail
  all_goals go_region_law (
    refine step_append_lies _ rfl (.tmp 80) (.tmp 86) 46 rfl W.heap.size 106 i0 _ 8 128 undE HI.out hz0 hz1 hz2 rfl (by decide) ov es.length (es.flatMap ecells) (by simp [Act.eval, Act.put]) HO8.out ⟨w6.heap.size + 1, 0, none⟩ 1 1 [.int .i64 t.place, .string (text nm.1), .string (text nm.2), .slice vo vn vc, .slice none 0 0, .string ⟨#[]⟩, .string (text t.s), .map (some g2)] (by simp [Act.eval, Act.put]) rfl ?c1 (by simp [Value.oneCell']) (by decide) ?c2 ?c3 ?c4 _ rfl ?_
    case c1 => exact new_cells _ _ _ _ (by simp)
    case c2 => unfold maxLen; omega
    case c3 => omega
    case c4 => simp at *; omega
    intro q cap w9 hown9 hg9 hgg9 hgl9
    have hgr : ((w6.alloc (.cells #[.int .i64 t.place, .string (text nm.1), .string (text nm.2), .slice vo vn vc, .slice none 0 0, .string ⟨#[]⟩] 32)).alloc (.cells #[.int .i64 t.place, .string (text nm.1), .string (text nm.2), .slice vo vn vc, .slice none 0 0, .string ⟨#[]⟩, .string (text t.s), .map (some g2)] 106)).grownBy w9 ov.ownBlock := ⟨hg9.os, hg9.tape, hg9.output, hg9.size, hg9.block⟩
    have HK := hid (HD8.out.push (x := ⟨⟨t.place, nm, l, [], t.s, g⟩, .slice vo vn vc, .slice none 0 0, g2⟩) rfl rfl HA8.out HS8.out hown9 hgr (hgg9.elim .inl (fun e => .inr e)))
    have hrr : w9.heap[r]? = (w6.alloc (.cells #[.int .i64 t.place, .string (text nm.1), .string (text nm.2), .slice vo vn vc, .slice none 0 0, .string ⟨#[]⟩] 32)).heap[r]? := (hgr.block r (by simp; simp at hlt8; omega) (fun e => OVR.out r e.symm rfl)).trans (HB8.out.block r hlt8)
    have b1 : w9.cell? ⟨r, 0, none⟩ = some ov := (World.cell?_of_block (a := ⟨r, 0, none⟩) hrr).trans c7
    have q1 : w9.frozen? ⟨r, 0, none⟩ = false := (World.frozen?_of_block (a := ⟨r, 0, none⟩) hrr).trans f7
    clear hown9 hg9 hgg9 hgr hrr)
  all_goals go_wp2
  all_goals go_ret2
  all_goals (rw [E.out]; exact ⟨rfl, _, _, _, _, _, HK.out, hsl⟩)
/-- All of begin. -/
theorem begin_any (h : Bd W r s ov tv es tx o w) (hsl : Sl tx) (hs : Sml s) (t : Tok) (ao : Option Addr) (an ac : Nat) (ht : TokOk w t (.slice ao an ac)) (hgo : GivOk s) :
    Calls Tryz.prog 21 #[.pointer (some ⟨r, 0, none⟩), tokV t (.slice ao an ac)] w fun e w' => GotG W r (beginT s t) e w' := by
  by_cases hd : s.outer.isSome = true
  · exact begin_done h hd t ao an ac
  have hd : s.outer.isSome = false := by simpa using hd
  by_cases hl : s.opn.length = 200
  · exact begin_deep h hd hl t ao an ac
  cases hw : within s.given t.attrs with
  | error x => exact begin_w h hsl hs hd hl t ao an ac ht hgo hw
  | ok g =>
    cases hn : nameIn g t.s ((get g []).getD []) with
    | error x => exact begin_n h hsl hs hd hl t ao an ac ht hgo hw hn
    | ok nm =>
      cases ha : attrsIn g [] t.attrs with
      | error x => exact begin_a h hsl hs hd hl t ao an ac ht hgo hw hn ha
      | ok l =>
        by_cases hk : t.kind = 2
        · exact begin_e h hsl hs hd hl t ao an ac ht hgo hw hn ha hk
        · exact begin_o h hsl hs hd hl t ao an ac ht hgo hw hn ha hk
end
end Go.Proofs.YthodmdfbahkflaaGreatDoor.Tree
namespace Go.Proofs.YthodmdfbahkflaaGreatDoor.Tree
open Go Go.Proofs.YthodmdfbahkflaaGreatDoor Go.Proofs.YthodmdfbahkflaaGreatDoor.Utf Go.Proofs.YthodmdfbahkflaaGreatDoor.Names Go.Proofs.YthodmdfbahkflaaGreatDoor.Ent Go.Proofs.YthodmdfbahkflaaGreatDoor.Tok Go.RowKit
set_option maxRecDepth 100000
/-- What is left of a text without the blanks around it. -/
def bare (l : List UInt8) : List UInt8 := Lib.trimS l [9, 10, 13, 32]
theorem isSp_is (c : UInt8) : isSp c = ([9, 10, 13, 32] : List UInt8).contains c := by
  have h : (List.range 256).all (fun n => isSp (UInt8.ofNat n) == ([9, 10, 13, 32] : List UInt8).contains (UInt8.ofNat n)) = true := by kernel_rfl
  have := List.all_eq_true.1 h c.toNat (List.mem_range.2 c.toNat_lt)
  rw [beq_iff_eq] at this
  rw [show UInt8.ofNat c.toNat = c from by simp] at this
  exact this
theorem dropWhile_nil {p : UInt8 → Bool} {l : List UInt8} : l.dropWhile p = [] ↔ ∀ x ∈ l, p x = true := by
  induction l with
  | nil => simp
  | cons a r ih =>
    by_cases h : p a = true
    · simp [List.dropWhile_cons, h, ih]
    · simp [List.dropWhile_cons, h]
theorem bare_nil (l : List UInt8) : bare l = [] ↔ blankB l = true := by
  unfold bare Lib.trimS Lib.trimLeftS Lib.trimRightS blankB
  constructor
  · intro h
    have h1 : ∀ x ∈ (l.reverse.dropWhile (fun x => ([9, 10, 13, 32] : List UInt8).contains x)).reverse, ([9, 10, 13, 32] : List UInt8).contains x = true := by
      intro x hx
      by_cases c : ([9, 10, 13, 32] : List UInt8).contains x = true
      · exact c
      · exfalso
        have := dropWhile_nil.1 h x hx
        exact c this
    have h2 : l.reverse.dropWhile (fun x => ([9, 10, 13, 32] : List UInt8).contains x) = [] := by
      cases hd : l.reverse.dropWhile (fun x => ([9, 10, 13, 32] : List UInt8).contains x) with
      | nil => rfl
      | cons a r =>
        have h3 := List.head_dropWhile_not (fun x => ([9, 10, 13, 32] : List UInt8).contains x) (l := l.reverse) (by rw [hd]; simp)
        simp only [hd, List.head_cons] at h3
        have h4 := h1 a (by rw [hd]; simp)
        rw [h4] at h3
        cases h3
    rw [List.all_eq_true]
    intro x hx
    rw [isSp_is]
    exact dropWhile_nil.1 h2 x (by simpa using hx)
  · intro h
    rw [List.all_eq_true] at h
    have h2 : l.reverse.dropWhile (fun x => ([9, 10, 13, 32] : List UInt8).contains x) = [] := dropWhile_nil.2 (fun x hx => by
      have := h x (by simpa using hx)
      rw [isSp_is] at this
      exact this)
    rw [h2]
    rfl
theorem Trim_bare (l : List UInt8) (hl : l.length ≤ 281474976710656) (w : World) : Calls Tryz.prog 32 #[.string (text l), .string ⟨#[9, 10, 13, 32]⟩] w fun e w' => e = .returned (.string (text (bare l))) ∧ Below w.heap.size w w' := by
  have := Any.strings_Trim_laid Tryz.lays160 (by kernel_rfl) (text l) ⟨#[9, 10, 13, 32]⟩ w (by rw [text_size]; omega) (by decide) (ascii_of_all (by decide))
  refine this.mono (fun e w' h => ⟨?_, h.2⟩)
  rw [h.1, _root_.Go.Proofs.YthodmdfbahkflaaGreatDoor.text_data]
  rfl
section
variable {W w : World} {r : Nat} {s : Bs} {ov tv : Value} {es : List Ev} {tx : List (Tok × Value)} {o : Node × Value × Value}
set_option maxHeartbeats 4000000
theorem text_out (h : Bd W r s ov tv es tx o w) (hes : es = []) (t : Tok) (ao : Option Addr) (an ac : Nat) (hl : t.s.length ≤ 281474976710656) :
    Calls Tryz.prog 19 #[.pointer (some ⟨r, 0, none⟩), tokV t (.slice ao an ac)] w fun e w' => e = .returned (.int .i64 (if blankB t.s = true then 0 else 5)) ∧ Below w.heap.size w w' := by
  have hcur := h.cur
  have olen := own_len (P := Tryz.prog) h.own 46 3 undE
  rw [hes] at olen
  have hlt := h.lt
  have c0 : w.cell? ⟨r, 0, none⟩ = some ov := by rw [Lib.cell_of_heap hcur]; rfl
  have TB := hid (fun w => Trim_bare t.s hl w)
  have B1 := hid (ba (b0 w) (.cells #[.int .i64 t.kind, .int .i64 t.place, .string (text t.s), .slice ao an ac] 45))
  clear h hcur hes
  unfold tokV
  by_cases hb : blankB t.s = true
  · have q : ((text (bare t.s)).toList == []) = true := list_yes ((bare_nil _).2 hb)
    have q2 : ((text (bare t.s)).toList != []) = false := by rw [bne, q]; rfl
    rw [if_pos hb]
    clear hb
    go_enter Tryz.func19, Tryz.ntmps19
    go_wp2_with fail
    refine (TB.out _).mono ?_
    rintro e w1 ⟨rfl, hb1⟩
    have HB1 := hid (B1.out.trans (hb1.mono B1.out.size))
    clear hb1
    go_wp2
    go_ret
    exact ⟨rfl, HB1.out⟩
  · have q : ((text (bare t.s)).toList == []) = false := list_no (fun c => hb ((bare_nil _).1 c))
    have q2 : ((text (bare t.s)).toList != []) = true := by rw [bne, q]; rfl
    rw [if_neg hb]
    clear hb
    go_enter Tryz.func19, Tryz.ntmps19
    go_wp2_with fail
    refine (TB.out _).mono ?_
    rintro e w1 ⟨rfl, hb1⟩
    have HB1 := hid (B1.out.trans (hb1.mono B1.out.size))
    clear hb1
    go_wp2
    go_ret
    exact ⟨rfl, HB1.out⟩
/-- What token tells. -/
def GotK (W : World) (r : Nat) (o : Except (Int × Nat) Bs) (e : Ending) (w' : World) : Prop :=
  match o with
  | .error x => e = .returned (.tuple #[.int .i64 x.1, .int .i64 x.2]) ∧ Below W.heap.size W w'
  | .ok s' => ∃ p, e = .returned (.tuple #[.int .i64 p, .int .i64 0]) ∧ Bx W r s' w'
theorem endE_place {s : Bs} {t : Tok} {x : Int × Nat} (h : endE s t = .error x) : x.1 = t.place := by
  unfold endE at h
  split at h
  · injection h with h; subst h; rfl
  · split at h
    · injection h with h; subst h; rfl
    · cases h
/-- A block that is new is none of those that may change. -/
theorem Bd.not_act (h : Bd W r s ov tv es tx o w) {b : Nat} (hb : w.heap.size ≤ b) : ¬ Act r ov tv es b := fun c => by
  have := (h.act c).2.1
  omega
theorem token_text (h : Bd W r s ov tv es tx o w) (hsl : Sl tx) (hs : Sml s) (htx : tx.length ≤ 1000000000) (t : Tok) (ao : Option Addr) (an ac : Nat) (hl : t.s.length ≤ 281474976710656) (hk : t.kind = 3) :
    Calls Tryz.prog 11 #[.pointer (some ⟨r, 0, none⟩), tokV t (.slice ao an ac)] w fun e w' => GotK W r (stepB s t) e w' := by
  have hm : es.length ≤ 1000000 := by rw [h.len]; exact hs.1
  have hkk : (t.kind == 3) = true := by rw [hk]; rfl
  have B1 := ba (b0 w) (.cells #[.int .i64 t.kind, .int .i64 t.place, .string (text t.s), .slice ao an ac] 45)
  have N1 := heap_alloc_new w (.cells #[.int .i64 t.kind, .int .i64 t.place, .string (text t.s), .slice ao an ac] 45)
  have HB1 := hid B1
  have HN1 := hid N1
  have H := hid h
  by_cases hes : es = []
  · have hon := h.opn_nil hes
    have TO := hid (fun (Y : World) (hY : Below w.heap.size w Y) => text_out (h.later hY) hes t ao an ac hl)
    have E := hid (show stepB s t = if blankB t.s = true then .ok s else .error (t.place, 5) by unfold stepB; rw [if_pos hk, if_neg (by rw [hon]; simp)])
    clear h B1 N1 hes hon hs hk
    unfold tokV at TO ⊢
    by_cases hb : blankB t.s = true
    · rw [if_pos hb] at TO
      have E2 := hid (E.out.trans (if_pos hb))
      clear hb E
      go_enter Tryz.func11, Tryz.ntmps11
      go_wp2_with fail
      go_region_with (
        go_at_call 19
        refine (TO.out _ HB1.out.drew).mono ?_
        rintro e w2 ⟨rfl, hb2⟩
        have p2 := (hb2.block _ (show w.heap.size < _ by simp [World.drew])).trans HN1.out
        have k1 : w2.cell? ⟨w.heap.size, 1, none⟩ = some (.int .i64 t.place) := by rw [Lib.cell_of_heap p2]; rfl
        have HB2 := hid (HB1.out.drew.trans (hb2.mono HB1.out.drew.size))
        clear hb2 p2)
      all_goals go_wp2
      all_goals go_ret2
      all_goals (rw [E2.out]; exact ⟨_, rfl, _, _, _, _, _, H.out.later HB2.out, hsl⟩)
    · rw [if_neg hb] at TO
      have E2 := hid (E.out.trans (if_neg hb))
      clear hb E
      go_enter Tryz.func11, Tryz.ntmps11
      go_wp2_with fail
      go_region_with (
        go_at_call 19
        refine (TO.out _ HB1.out.drew).mono ?_
        rintro e w2 ⟨rfl, hb2⟩
        have p2 := (hb2.block _ (show w.heap.size < _ by simp [World.drew])).trans HN1.out
        have k1 : w2.cell? ⟨w.heap.size, 1, none⟩ = some (.int .i64 t.place) := by rw [Lib.cell_of_heap p2]; rfl
        have HB2 := hid (HB1.out.drew.trans (hb2.mono HB1.out.drew.size))
        clear hb2 p2)
      all_goals go_wp2
      all_goals go_ret2
      all_goals (rw [E2.out]; exact ⟨rfl, H.out.old.trans (HB2.out.mono H.out.old.size)⟩)
  · have hon : s.opn ≠ [] := fun c => by
      have := h.len
      rw [c] at this
      exact hes (List.eq_nil_of_length_eq_zero this)
    have TI := hid (fun (Y : World) (hY : Below w.heap.size w Y) => text_in (h.later hY) hes t ao an ac htx hm)
    have E := hid (show stepB s t = .ok { s with texts := s.texts ++ [(t.place, t.s)] } by unfold stepB; rw [if_pos hk, if_pos hon])
    have NA := hid (h.not_act (Nat.le_refl _))
    clear h B1 N1 hes hon hs hk
    unfold tokV at TI ⊢
    go_enter Tryz.func11, Tryz.ntmps11
    go_wp2_with fail
    go_region_with (
      go_at_call 19
      refine (TI.out _ HB1.out.drew).mono ?_
      rintro e w2 ⟨rfl, ⟨tv', hb2⟩, hk2⟩
      have p2 := hk2.cell HN1.out NA.out
      have k1 : w2.cell? ⟨w.heap.size, 1, none⟩ = some (.int .i64 t.place) := by rw [Lib.cell_of_heap p2]; rfl
      have HB2 := hid hb2
      clear hb2 hk2 p2)
    all_goals go_wp2
    all_goals go_ret2
    all_goals (rw [E.out]; exact ⟨_, rfl, _, _, _, _, _, HB2.out, fun x hx => by
      rcases List.mem_append.1 hx with hx | hx
      · exact hsl x hx
      · obtain rfl := by simpa using hx
        exact ⟨_, _, _, rfl⟩⟩)
set_option maxHeartbeats 8000000
theorem endT_given (s : Bs) : (endT s).given = s.given := by
  unfold endT
  split
  · rfl
  · unfold addN Bs.given
    cases s.opn <;> rfl
theorem TokOk.to {w w' : World} {t : Tok} {v : Value} (h : TokOk w t v) (hb : Below w.heap.size w w') : TokOk w' t v := ⟨h.prs.below hb (Nat.le_refl _), h.few, h.len, h.s⟩
theorem token_tag (h : Bd W r s ov tv es tx o w) (hsl : Sl tx) (hs : Sml s) (hs2 : Sml (endT s)) (htx : SmT s) (t : Tok) (ao : Option Addr) (an ac : Nat) (ht : TokOk W t (.slice ao an ac)) (hgo : GivOk s) (hk : t.kind ≠ 3) :
    Calls Tryz.prog 11 #[.pointer (some ⟨r, 0, none⟩), tokV t (.slice ao an ac)] w fun e w' => GotK W r (stepB s t) e w' := by
  have hk3 : (t.kind == 3) = false := by rw [beq_eq_false_iff_ne]; exact hk
  have B1 := ba (b0 w) (.cells #[.int .i64 t.kind, .int .i64 t.place, .string (text t.s), .slice ao an ac] 45)
  have N1 := heap_alloc_new w (.cells #[.int .i64 t.kind, .int .i64 t.place, .string (text t.s), .slice ao an ac] 45)
  have hnew : w.heap.size < (w.alloc (.cells #[.int .i64 t.kind, .int .i64 t.place, .string (text t.s), .slice ao an ac] 45)).heap.size := by simp
  have ET := hid (endTexts_any (h.later B1) hsl hs htx)
  have HN1 := hid N1
  have NA := hid (h.not_act (Nat.le_refl _))
  have HG2 := hid (show GivOk (endT s) from ⟨by rw [endT_given]; exact hgo.spl, by rw [endT_given]; exact hgo.few⟩)
  have HT := hid ht
  have HS2 := hid hs2
  have E0 := hid (show stepB s t = if t.kind = 0 ∨ t.kind = 2 then beginT (endT s) t else if t.kind = 1 then endE (endT s) t else .error (t.place, 2) by unfold stepB; rw [if_neg hk])
  clear h B1 N1 hs hs2 htx hgo ht hk
  unfold tokV
  by_cases h02 : t.kind = 0 ∨ t.kind = 2
  · have E := hid (show stepB s t = beginT (endT s) t by rw [E0.out, if_pos h02])
    have BG := hid (fun (Y : World) (ov1 tv1 : Value) (es1 : List Ev) (tx1 : List (Tok × Value)) (o1 : Node × Value × Value) (hY : Bd W r (endT s) ov1 tv1 es1 tx1 o1 Y) (hsl1 : Sl tx1) => begin_any hY hsl1 HS2.out t ao an ac (HT.out.to hY.old) HG2.out)
    unfold tokV at BG
    have q : Hid (((t.kind == 0) = true) ∨ ((t.kind == 0) = false ∧ (t.kind == 2) = true)) := hid (by rcases h02 with c | c <;> rw [c] <;> simp)
    clear h02 E0
    rcases q.out with q0 | ⟨q0, q2⟩
    all_goals go_enter Tryz.func11, Tryz.ntmps11
    all_goals go_wp2_with fail
    all_goals refine ET.out.mono ?_
    all_goals rintro e w1 ⟨rfl, ⟨ov1, tv1, es1, tx1, o1, hb1, hsl1, _⟩, hkp1⟩
    all_goals have p2 := hkp1.cell HN1.out (fun c => NA.out c)
    all_goals have k0 : w1.cell? ⟨w.heap.size, 0, none⟩ = some (.int .i64 t.kind) := by rw [Lib.cell_of_heap p2]; rfl
    all_goals have k1 : w1.cell? ⟨w.heap.size, 1, none⟩ = some (.int .i64 t.place) := by rw [Lib.cell_of_heap p2]; rfl
    all_goals have k2 : w1.cell? ⟨w.heap.size, 2, none⟩ = some (.string (text t.s)) := by rw [Lib.cell_of_heap p2]; rfl
    all_goals have k3 : w1.cell? ⟨w.heap.size, 3, none⟩ = some (.slice ao an ac) := by rw [Lib.cell_of_heap p2]; rfl
    all_goals have BG1 := hid (BG.out w1 ov1 tv1 es1 tx1 o1 hb1 hsl1)
    all_goals clear hb1 hkp1 p2
    all_goals go_wp2_with fail
    all_goals refine BG1.out.mono ?_
    all_goals intro e w3 hg3
    all_goals cases hbt : beginT (endT s) t with
      | error x =>
        rw [hbt] at hg3
        obtain ⟨rfl, hb3⟩ := hg3
        have E3 := hid (E.out.trans hbt)
        have HB3 := hid hb3
        clear hbt hb3
        go_wp2
        go_ret2
        rw [E3.out]
        exact ⟨rfl, HB3.out⟩
      | ok s' =>
        rw [hbt] at hg3
        obtain ⟨rfl, hb3⟩ := hg3
        have E3 := hid (E.out.trans hbt)
        have HB3 := hid hb3
        clear hbt hb3
        go_wp2
        go_ret2
        rw [E3.out]
        exact ⟨_, rfl, HB3.out⟩
  by_cases h1 : t.kind = 1
  · have q0 : (t.kind == 0) = false := by rw [h1]; rfl
    have q2 : (t.kind == 2) = false := by rw [h1]; rfl
    have q1 : (t.kind == 1) = true := by rw [h1]; rfl
    cases hee : endE (endT s) t with
    | error x =>
      have E := hid (show stepB s t = .error (t.place, x.2) by rw [E0.out, if_neg h02, if_pos h1, hee, ← endE_place hee])
      have HEE := hid hee
      have EE0 := hid (fun (Y : World) (ov1 tv1 : Value) (es1 : List Ev) (tx1 : List (Tok × Value)) (o1 : Node × Value × Value) (hY : Bd W r (endT s) ov1 tv1 es1 tx1 o1 Y) (hsl1 : Sl tx1) => end_any hY hsl1 HS2.out t ao an ac)
      unfold tokV at EE0
      clear h1 h02 E0 hee
      go_enter Tryz.func11, Tryz.ntmps11
      go_wp2_with fail
      refine ET.out.mono ?_
      rintro e w1 ⟨rfl, ⟨ov1, tv1, es1, tx1, o1, hb1, hsl1, hsub⟩, hkp1⟩
      have p2 := hkp1.cell HN1.out (fun c => NA.out c)
      have k0 : w1.cell? ⟨w.heap.size, 0, none⟩ = some (.int .i64 t.kind) := by rw [Lib.cell_of_heap p2]; rfl
      have k1 : w1.cell? ⟨w.heap.size, 1, none⟩ = some (.int .i64 t.place) := by rw [Lib.cell_of_heap p2]; rfl
      have k2 : w1.cell? ⟨w.heap.size, 2, none⟩ = some (.string (text t.s)) := by rw [Lib.cell_of_heap p2]; rfl
      have k3 : w1.cell? ⟨w.heap.size, 3, none⟩ = some (.slice ao an ac) := by rw [Lib.cell_of_heap p2]; rfl
      have EE := hid (fun (Y : World) (hY : Below w1.heap.size w1 Y) => EE0.out Y ov1 tv1 es1 tx1 o1 (hb1.later hY) hsl1)
      have HP2 := hid p2
      have NA2 := hid (show ¬ Act r ov1 tv1 es1 w.heap.size from fun c => NA.out (hsub _ hnew c))
      clear hb1 hkp1 p2 hsub
      go_wp2_with fail
      go_region_with (
        go_at_call 22
        refine (EE.out _ (b0 w1).drew).mono ?_
        rintro e w3 ⟨hkp3, hg3⟩
        rw [HEE.out] at hg3
        obtain ⟨rfl, hb3⟩ := hg3
        have p3 := hkp3.cell (HP2.out : w1.drew.heap[w.heap.size]? = _) NA2.out
        have m1 : w3.cell? ⟨w.heap.size, 1, none⟩ = some (.int .i64 t.place) := by rw [Lib.cell_of_heap p3]; rfl
        have HB3 := hid hb3
        clear hb3 p3 hkp3)
      all_goals go_wp2
      all_goals go_ret2
      all_goals (rw [E.out]; exact ⟨rfl, HB3.out⟩)
    | ok s' =>
      have E := hid (show stepB s t = .ok s' by rw [E0.out, if_neg h02, if_pos h1, hee])
      have HEE := hid hee
      have EE0 := hid (fun (Y : World) (ov1 tv1 : Value) (es1 : List Ev) (tx1 : List (Tok × Value)) (o1 : Node × Value × Value) (hY : Bd W r (endT s) ov1 tv1 es1 tx1 o1 Y) (hsl1 : Sl tx1) => end_any hY hsl1 HS2.out t ao an ac)
      unfold tokV at EE0
      clear h1 h02 E0 hee
      go_enter Tryz.func11, Tryz.ntmps11
      go_wp2_with fail
      refine ET.out.mono ?_
      rintro e w1 ⟨rfl, ⟨ov1, tv1, es1, tx1, o1, hb1, hsl1, hsub⟩, hkp1⟩
      have p2 := hkp1.cell HN1.out (fun c => NA.out c)
      have k0 : w1.cell? ⟨w.heap.size, 0, none⟩ = some (.int .i64 t.kind) := by rw [Lib.cell_of_heap p2]; rfl
      have k1 : w1.cell? ⟨w.heap.size, 1, none⟩ = some (.int .i64 t.place) := by rw [Lib.cell_of_heap p2]; rfl
      have k2 : w1.cell? ⟨w.heap.size, 2, none⟩ = some (.string (text t.s)) := by rw [Lib.cell_of_heap p2]; rfl
      have k3 : w1.cell? ⟨w.heap.size, 3, none⟩ = some (.slice ao an ac) := by rw [Lib.cell_of_heap p2]; rfl
      have EE := hid (fun (Y : World) (hY : Below w1.heap.size w1 Y) => EE0.out Y ov1 tv1 es1 tx1 o1 (hb1.later hY) hsl1)
      have HP2 := hid p2
      have NA2 := hid (show ¬ Act r ov1 tv1 es1 w.heap.size from fun c => NA.out (hsub _ hnew c))
      clear hb1 hkp1 p2 hsub
      go_wp2_with fail
      go_region_with (
        go_at_call 22
        refine (EE.out _ (b0 w1).drew).mono ?_
        rintro e w3 ⟨hkp3, hg3⟩
        rw [HEE.out] at hg3
        obtain ⟨rfl, hb3⟩ := hg3
        have p3 := hkp3.cell (HP2.out : w1.drew.heap[w.heap.size]? = _) NA2.out
        have m1 : w3.cell? ⟨w.heap.size, 1, none⟩ = some (.int .i64 t.place) := by rw [Lib.cell_of_heap p3]; rfl
        have HB3 := hid hb3
        clear hb3 p3 hkp3)
      all_goals go_wp2
      all_goals go_ret2
      all_goals (rw [E.out]; exact ⟨_, rfl, HB3.out⟩)
  · have q0 : (t.kind == 0) = false := by rw [beq_eq_false_iff_ne]; exact fun c => h02 (.inl c)
    have q2 : (t.kind == 2) = false := by rw [beq_eq_false_iff_ne]; exact fun c => h02 (.inr c)
    have q1 : (t.kind == 1) = false := by rw [beq_eq_false_iff_ne]; exact h1
    have E := hid (show stepB s t = .error (t.place, 2) by rw [E0.out, if_neg h02, if_neg h1])
    clear h1 h02 E0
    go_enter Tryz.func11, Tryz.ntmps11
    go_wp2_with fail
    refine ET.out.mono ?_
    rintro e w1 ⟨rfl, ⟨ov1, tv1, es1, tx1, o1, hb1, hsl1, _⟩, hkp1⟩
    have p2 := hkp1.cell HN1.out (fun c => NA.out c)
    have k0 : w1.cell? ⟨w.heap.size, 0, none⟩ = some (.int .i64 t.kind) := by rw [Lib.cell_of_heap p2]; rfl
    have k1 : w1.cell? ⟨w.heap.size, 1, none⟩ = some (.int .i64 t.place) := by rw [Lib.cell_of_heap p2]; rfl
    have HB1 := hid hb1
    clear hb1 hkp1 p2
    go_wp2
    go_ret2
    rw [E.out]
    exact ⟨rfl, HB1.out.old⟩
/-- All of token. -/
theorem token_any (h : Bd W r s ov tv es tx o w) (hsl : Sl tx) {n : Nat} (hi : Inv n (2 * n) s) (hn : n ≤ 900000) (t : Tok) (ao : Option Addr) (an ac : Nat) (ht : TokOk W t (.slice ao an ac)) :
    Calls Tryz.prog 11 #[.pointer (some ⟨r, 0, none⟩), tokV t (.slice ao an ac)] w fun e w' => GotK W r (stepB s t) e w' := by
  have hs : Sml s := ⟨by have := hi.opn; omega, by have := hi.txn; omega, fun e he => by have := hi.kid e he; omega⟩
  by_cases hk : t.kind = 3
  · exact token_text h hsl hs (by have := h.txlen; have := hi.txn; omega) t ao an ac ht.s hk
  · have h2 := hi.endT
    have hs2 : Sml (endT s) := ⟨by have := h2.opn; omega, by have := h2.txn; omega, fun e he => by have := h2.kid e he; omega⟩
    have hg := hi.given
    exact token_tag h hsl hs hs2 ⟨by have := hi.txn; omega, hi.txl⟩ t ao an ac ht ⟨hg.1, by have := hg.2; omega⟩ hk
end
end Go.Proofs.YthodmdfbahkflaaGreatDoor.Tree
