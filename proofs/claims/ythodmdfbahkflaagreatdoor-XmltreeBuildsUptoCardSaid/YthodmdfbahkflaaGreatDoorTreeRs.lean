/- Layer 5: the document's Same, of one tree in two places. -/
import Derived.Test.YthodmdfbahkflaaGreatDoorTrW
import Derived.BigQuiet
import Derived.Deep.QuietTactic
import Derived.StillTailTactics
set_option linter.unusedVariables false
set_option linter.unusedSimpArgs false
namespace Go.Proofs.YthodmdfbahkflaaGreatDoor.Tree
open Go Go.Proofs.YthodmdfbahkflaaGreatDoor Go.Proofs.YthodmdfbahkflaaGreatDoor.Utf Go.Proofs.YthodmdfbahkflaaGreatDoor.Names Go.Proofs.YthodmdfbahkflaaGreatDoor.Ent Go.Proofs.YthodmdfbahkflaaGreatDoor.Tok Go.RowKit
set_option maxRecDepth 100000
theorem sizeL_at : ∀ (l : List Node) (j : Nat) (h : j < l.length), l[j].size ≤ sizeL l := by
  intro l
  induction l with
  | nil => intro j h; simp at h
  | cons a r ihr =>
    intro j h
    cases j with
    | zero => simp [sizeL]
    | succ j => have := ihr j (by simpa using h); simp [sizeL]; omega
set_option maxHeartbeats 8000000 in
theorem RSame_self : ∀ (N : Nat) (n : Node) (ao : Option Addr) (an ac : Nat) (ko : Option Addr) (kn kc : Nat) (bo : Option Addr) (bn bc : Nat) (lo : Option Addr) (ln lc : Nat) (w : World), n.size ≤ N →
    IsN w (fun _ => False) n (.slice ao an ac) (.slice ko kn kc) → IsN w (fun _ => False) n (.slice bo bn bc) (.slice lo ln lc) →
    Calls Tryz.prog 8 #[nodeV n (.slice ao an ac) (.slice ko kn kc), nodeV n (.slice bo bn bc) (.slice lo ln lc), .bool true] w fun e w' => e = .returned (.bool true) ∧ Below w.heap.size w w' := by
  intro N
  induction N with
  | zero => intro n ao an ac ko kn kc bo bn bc lo ln lc w hN; have := n.size_pos; omega
  | succ N ih =>
    intro n ao an ac ko kn kc bo bn bc lo ln lc w hN h k
    obtain ⟨p, nm, al, ks, tx⟩ := n
    obtain ⟨ha, hk⟩ := h.parts
    obtain ⟨hb, hl⟩ := k.parts
    simp only [Node.attrs, Node.kids] at ha hk hb hl
    have hsize : 1 + sizeL ks ≤ N + 1 := by simpa [Node.size] using hN
    have alen := fun X => ha.len (P := Tryz.prog) 29 3 61 undAs X
    have blen := fun X => hb.len (P := Tryz.prog) 29 3 61 undAs X
    have klen := fun X => hk.len (P := Tryz.prog) 30 3 32 undN X
    have llen := fun X => hl.len (P := Tryz.prog) 30 3 32 undN X
    have hall := ha.few
    have hkl : ks.length ≤ 281474976710656 := by
      obtain ⟨r, hr, ⟨⟨a, c, _, _, _, h0, _⟩, _⟩, _⟩ := hk
      rw [← hr, List.length_map]; omega
    obtain ⟨X1, hX1⟩ : ∃ X1, w.alloc (.cells #[.int .i64 p, .string (text nm.1), .string (text nm.2), .slice ao an ac, .slice ko kn kc, .string (text tx)] 32) = X1 := ⟨_, rfl⟩
    obtain ⟨W0, hW0⟩ : ∃ W0, X1.alloc (.cells #[.int .i64 p, .string (text nm.1), .string (text nm.2), .slice bo bn bc, .slice lo ln lc, .string (text tx)] 32) = W0 := ⟨_, rfl⟩
    have s1 : X1.heap.size = w.heap.size + 1 := by rw [← hX1]; simp
    have B1 : Below w.heap.size w X1 := by rw [← hX1]; exact ba (b0 w) _
    have B0 : Below X1.heap.size X1 W0 := by rw [← hW0]; exact ba (b0 X1) _
    have B2 := bt B1 B0
    have pn : W0.heap[w.heap.size]? = some (.cells #[.int .i64 p, .string (text nm.1), .string (text nm.2), .slice ao an ac, .slice ko kn kc, .string (text tx)] 32) := (B0.block _ (by omega)).trans (by rw [← hX1]; exact heap_alloc_new w _)
    have pm : W0.heap[w.heap.size + 1]? = some (.cells #[.int .i64 p, .string (text nm.1), .string (text nm.2), .slice bo bn bc, .slice lo ln lc, .string (text tx)] 32) := by rw [← s1, ← hW0]; exact heap_alloc_new X1 _
    have PN := hid pn
    have PM := hid pm
    have HB2 := hid B2
    have HA := hid ha
    have HK := hid hk
    have HB := hid hb
    have HL := hid hl
    have HIH := hid ih
    have HX1 := hid hX1
    have HW0 := hid hW0
    have cells : ∀ Y : World, Below w.heap.size w Y → Y.heap[w.heap.size]? = some (.cells #[.int .i64 p, .string (text nm.1), .string (text nm.2), .slice ao an ac, .slice ko kn kc, .string (text tx)] 32) → Y.heap[w.heap.size + 1]? = some (.cells #[.int .i64 p, .string (text nm.1), .string (text nm.2), .slice bo bn bc, .slice lo ln lc, .string (text tx)] 32) →
        Y.cell? ⟨w.heap.size, 2 + 1, none⟩ = some (.slice ao an ac) := fun Y _ h1 _ => by rw [Lib.cell_of_heap h1]; rfl
    clear cells ih h k ha hk hb hl hN B1 B0 B2 pn pm hX1 hW0 s1
    unfold nodeV
    simp only [Node.place, Node.nm, Node.text]
    go_enter Tryz.func8, Tryz.ntmps8
    go_wp2_with fail
    have HSTART : Hid (W0 = W0) := hid rfl
    go_loopg [7] al.length (fun gk iv X => ∃ i : Nat, iv = .int .i64 i ∧ i + gk = al.length ∧ Hid (Below w.heap.size w X) ∧ Hid (X.heap[w.heap.size]? = some (.cells #[.int .i64 p, .string (text nm.1), .string (text nm.2), .slice ao an ac, .slice ko kn kc, .string (text tx)] 32)) ∧ Hid (X.heap[w.heap.size + 1]? = some (.cells #[.int .i64 p, .string (text nm.1), .string (text nm.2), .slice bo bn bc, .slice lo ln lc, .string (text tx)] 32)))
    case atStart => exact ⟨0, rfl, by omega, by rw [HX1.out, HW0.out]; exact HB2, by rw [HX1.out, HW0.out]; exact PN, by rw [HX1.out, HW0.out]; exact PM⟩
    case round =>
      rename World => X
      obtain ⟨i, rfl, hig, HX, PX, PY⟩ := hrel
      have c3 : X.cell? ⟨w.heap.size, 3, none⟩ = some (.slice ao an ac) := by rw [Lib.cell_of_heap PX.out]; rfl
      have d3 : X.cell? ⟨w.heap.size + 1, 3, none⟩ = some (.slice bo bn bc) := by rw [Lib.cell_of_heap PY.out]; rfl
      by_cases hi : i < al.length
      · obtain ⟨b1, o1, i1, e0, e1, e2⟩ := (HA.out.to (A' := fun _ => False) (fun _ _ f => f) (Keep.of_below HX.out)).at (P := Tryz.prog) i hi 29 61 undAs sizAt
        obtain ⟨b2, o2, i2, f0, f1, f2⟩ := (HB.out.to (A' := fun _ => False) (fun _ _ f => f) (Keep.of_below HX.out)).at (P := Tryz.prog) i hi 29 61 undAs sizAt
        have i1' := i1 .i64
        have i2' := i2 .i64
        generalize al[i] = a at *
        clear i1 i2
        go_wp2_with fail
        go_quiet (fail)
        go_wp2
        go_roundg (gk - 1)
        case measure => omega
        case rel => exact ⟨i + 1, by go_num, by omega, hid (below_drewN HX.out _), PX, PY⟩
      · go_wp2_with fail
        go_loopg [8, 9] ks.length (fun gk iv sv Y => ∃ (i : Nat), iv = .int .i64 i ∧ i + gk = ks.length ∧ Hid (Below w.heap.size w Y) ∧ Hid (Y.heap[w.heap.size]? = some (.cells #[.int .i64 p, .string (text nm.1), .string (text nm.2), .slice ao an ac, .slice ko kn kc, .string (text tx)] 32)) ∧ Hid (Y.heap[w.heap.size + 1]? = some (.cells #[.int .i64 p, .string (text nm.1), .string (text nm.2), .slice bo bn bc, .slice lo ln lc, .string (text tx)] 32)))
        case atStart => exact ⟨0, rfl, by omega, HX, PX, PY⟩
        case round =>
          rename World => Y
          obtain ⟨m, rfl, hmg, HY, QX, QY⟩ := hrel
          have c4 : Y.cell? ⟨w.heap.size, 4, none⟩ = some (.slice ko kn kc) := by rw [Lib.cell_of_heap QX.out]; rfl
          have d4 : Y.cell? ⟨w.heap.size + 1, 4, none⟩ = some (.slice lo ln lc) := by rw [Lib.cell_of_heap QY.out]; rfl
          by_cases hm : m < ks.length
          · obtain ⟨b1, o1, av1, kv1, i1, e0, e1, e2, e3, e4, e5, is1, _⟩ := (HK.out.to (A' := fun _ => False) (fun _ _ f => f) (Keep.of_below HY.out)).at (P := Tryz.prog) m hm 30 32 undN sizN
            obtain ⟨b2, o2, av2, kv2, i2, f0, f1, f2, f3, f4, f5, is2, _⟩ := (HL.out.to (A' := fun _ => False) (fun _ _ f => f) (Keep.of_below HY.out)).at (P := Tryz.prog) m hm 30 32 undN sizN
            have hsz := sizeL_at ks m hm
            have i1' := i1 .i64
            have i2' := i2 .i64
            generalize ks[m] = q at *
            obtain ⟨⟨xo, xn, xc, hx1⟩, yo, yn, yc, hy1⟩ := is1.forms
            obtain ⟨⟨zo, zn, zc, hx2⟩, to, tn, tc, hy2⟩ := is2.forms
            subst hx1 hy1 hx2 hy2
            have IH := hid (fun (Z : World) (hZ : Below Y.heap.size Y Z) => HIH.out q xo xn xc yo yn yc zo zn zc to tn tc Z (by omega) (is1.to (fun _ _ f => f) (Keep.of_below hZ)) (is2.to (fun _ _ f => f) (Keep.of_below hZ)))
            unfold nodeV at IH
            have HYD := hid (show Below Y.heap.size Y Y.drew from below_drewN (b0 Y) 1)
            clear i1 i2 is1 is2 hsz
            go_wp2_with fail
            go_still_tail 11, (by kernel_rfl)
            change wpList _ _ _ _ _ Y.drew
            have HYE := hid (bt HY.out HYD.out)
            have QX' := hid (show Y.drew.heap[w.heap.size]? = some (.cells #[.int .i64 p, .string (text nm.1), .string (text nm.2), .slice ao an ac, .slice ko kn kc, .string (text tx)] 32) from QX.out)
            have QY' := hid (show Y.drew.heap[w.heap.size + 1]? = some (.cells #[.int .i64 p, .string (text nm.1), .string (text nm.2), .slice bo bn bc, .slice lo ln lc, .string (text tx)] 32) from QY.out)
            have IHD := hid (IH.out _ HYD.out)
            clear c4 d4 e0 e1 e2 e3 e4 e5 f0 f1 f2 f3 f4 f5 i1' i2' IH HYD
            generalize Y.drew = Z at *
            go_wp2_with fail
            refine IHD.out.mono ?_
            rintro e w1 ⟨rfl, hb1⟩
            have HZ := hid (HYE.out.trans (hb1.mono HYE.out.size))
            have QX1 := hid ((hb1.block _ (lt_of_some QX'.out)).trans QX'.out)
            have QY1 := hid ((hb1.block _ (lt_of_some QY'.out)).trans QY'.out)
            clear hb1
            go_wp2
            go_roundg (gk - 1)
            case measure => omega
            case rel => exact ⟨m + 1, by go_num, by omega, HZ, QX1, QY1⟩
          · go_wp2
            go_ret
            exact ⟨rfl, HY.out⟩
end Go.Proofs.YthodmdfbahkflaaGreatDoor.Tree
