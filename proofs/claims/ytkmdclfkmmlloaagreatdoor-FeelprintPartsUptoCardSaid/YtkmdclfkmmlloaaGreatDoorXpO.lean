/- Layer 10: an expression that came in as an argument. -/
import Derived.Test.YtkmdclfkmmlloaaGreatDoorXpMem
import Derived.Test.YtkmdclfkmmlloaaGreatDoorXbX
import Derived.Test.YtkmdclfkmmlloaaGreatDoorXpD
import Derived.Test.YtkmdclfkmmlloaaGreatDoorXbS
import Derived.Test.YtkmdclfkmmlloaaGreatDoorOpen2
import Derived.Deep.Slices
set_option linter.unusedVariables false
set_option linter.unusedSimpArgs false
namespace Go.Proofs.YtkmdclfkmmlloaaGreatDoor.Xp
open Go Go.Proofs.YtkmdclfkmmlloaaGreatDoor Go.ChangeShapes Go.WideShapes Go.ChangeAt Go.RowKit Go.Deep
set_option maxRecDepth 100000
theorem celStr : Tryz.prog.cellsOf 9 = 1 := by kernel_rfl
theorem celInt : Tryz.prog.cellsOf 3 = 1 := by kernel_rfl
theorem celEx : Tryz.prog.cellsOf 25 = 4 := by kernel_rfl
theorem celSs : Tryz.prog.cellsOf 22 = 1 := by kernel_rfl
theorem celEs : Tryz.prog.cellsOf 23 = 1 := by kernel_rfl
theorem uStr : Tryz.prog.underlying 9 = some .string := Tryz.underlying9
theorem uInt : Tryz.prog.underlying 3 = some (.int .i64) := Tryz.underlying3
theorem text_back (s : ByteArray) : text s.data.toList = s := by simp [text]
theorem massL_sum : ∀ l : List Ex, massL l = (l.map Ex.mass).sum
  | [] => rfl
  | n :: r => by simp [massL, massL_sum r]
theorem fitL_all : ∀ {l : List Ex}, (∀ e ∈ l, e.fit) → fitL l
  | [], _ => trivial
  | x :: l, h => ⟨h x (List.mem_cons_self ..), fitL_all fun e he => h e (List.mem_cons_of_mem _ he)⟩
section
variable {H : Type} {enc : TypeId × Value → H} {w : World} {base : Nat} {spare : Nat → Bool} {held : Bool}
/-- The four cells of an expression; its names and parts still to be read. -/
theorem open_cells {fuel : Nat} {cs : List Value} {y : DataW H × List MemPlace} (h : DataW.trod enc Tryz.prog w base spare held fuel 25 cs = some y) :
    ∃ (p : Int) (a : Nam) (v2 v3 : Value) (y2 y3 : DataW H × List MemPlace) (k : Nat), cs = [.int .i64 p, .string (text a), v2, v3] ∧ (Lit.int .i64 p).wf = true ∧
      DataW.trod enc Tryz.prog w base spare held k 22 [v2] = some y2 ∧ DataW.trod enc Tryz.prog w base spare held k 23 [v3] = some y3 ∧
      y.1 = .agg [.lit (.int .i64 p), .lit (.string a), y2.1, y3.1] := by
  obtain ⟨ys, k, _, hy, hcl, hyl, hf⟩ := DataW.trod_struct Tryz.underlying25 h
  rw [celEx] at hcl
  match ys, hyl, cs, hcl with
  | [y0, y1, y2, y3], _, [v0, v1, v2, v3], _ =>
    have h0 := hf 0 _ rfl
    have h1 := hf 1 _ rfl
    have h2 := hf 2 _ rfl
    have h3 := hf 3 _ rfl
    simp [celStr, celInt, celSs, celEs] at h0 h1 h2 h3
    obtain ⟨p, e0, d0, w0⟩ := DataW.trod_int uInt h0
    obtain ⟨s1, e1, d1, _⟩ := DataW.trod_string uStr h1
    simp only [List.cons.injEq, and_true] at e0 e1
    subst e0 e1 d0 d1
    refine ⟨p, s1.data.toList, v2, v3, y2, y3, k, by rw [text_back], w0, h2, h3, ?_⟩
    have := congrArg Prod.fst hy
    simp only [List.map_cons, List.map_nil] at this
    exact this
theorem bulk_mem {D : Nat → DataW H} {l : List Nat} {i : Nat} (h : i ∈ l) : Rows.uptoBulk (D i) ≤ Rows.uptoBulkAll (l.map D) := by
  induction l with
  | nil => cases h
  | cons y l ih =>
    simp only [List.map_cons, Rows.uptoBulkAll]
    rcases List.mem_cons.1 h with rfl | h
    · omega
    · have := ih h; omega
theorem open_names {fuel : Nat} {v : Value} {x : DataW H × List MemPlace} (h : DataW.trod enc Tryz.prog w base spare held fuel 22 [v] = some x) (hs : Rows.uptoBulk x.1 ≤ 281474976710656) :
    ∃ l : List Nam, Strs w v l ∧ namesMass l ≤ Rows.uptoBulk x.1 := by
  refine Sc.open_strs_row undS uStr celStr h fun a n c e => ?_
  rcases open_strings undS uStr celStr h with ⟨hv, _⟩ | ⟨a', len, cap, ss, hv, hbs, hl, hm, hlen, hx, hcell, hmax⟩
  · rw [e] at hv; simp at hv
  · obtain ⟨rfl, rfl, rfl⟩ : n = len ∧ c = cap ∧ a = a' := by rw [e] at hv; simp at hv; exact ⟨hv.2.1, hv.2.2, hv.1⟩
    have hsl : n ≤ ss.length := by rw [hlen]; split <;> omega
    rw [hx] at hs
    simp only [Rows.uptoBulk] at hs
    have := Sc.bulk_strs (H := H) (ss.take n)
    have h2 := Sc.strMass_len ((ss.take n).map fun s => s.data.toList)
    rw [List.length_map, List.length_take] at h2
    omega
theorem open_parts : ∀ (N : Nat) (fuel : Nat) (v : Value) (x : DataW H × List MemPlace), Rows.uptoBulk x.1 = N → DataW.trod enc Tryz.prog w base spare held fuel 23 [v] = some x → N ≤ 281474976710656 →
    ∃ l : List Ex, Exs w v l ∧ massL l ≤ N ∧ ∀ n ∈ l, n.fit := by
  intro N
  induction N using Nat.strongRecOn with
  | _ N ih =>
    intro fuel v x hN h hs
    rcases open_slice Tryz.underlying23 h with ⟨hv, _⟩ | ⟨a, len, cap, m, n, D, Pl, hv, hb, hl, hm, hmm, rfl, hx⟩
    · obtain rfl : v = .slice none 0 0 := by simpa using hv
      exact ⟨[], Exs.nil w, by simp [massL], by simp⟩
    obtain rfl : v = .slice (some a) len cap := by simpa using hv
    have hlm : len ≤ m := by rw [hmm]; split <;> omega
    have hle : Rows.uptoBulkAll ((List.range len).map D) + 1 ≤ N := by
      rw [← hN]; simp only [Rows.uptoBulk]; omega
    have each : ∀ i, i < len → ∃ q : Ex × Value × Value, (∀ j, j < 4 → w.cell? (a.add (i * 4 + j)) = (ecells q)[j]?) ∧ IsE w q.1 q.2.1 q.2.2 ∧ q.1.mass ≤ Rows.uptoBulk (D i) ∧ q.1.fit := by
      intro i hi
      have hDi := bulk_mem (D := D) (List.mem_range.2 hi)
      obtain ⟨cs', h1, h2⟩ := hx i (by omega)
      rw [celEx] at h1
      obtain ⟨_, hlen, hcell⟩ := World.cells?_some h1
      obtain ⟨p, s, v2, v3, y2, y3, k, rfl, wf, t2, t3, hd⟩ := open_cells h2
      dsimp only at hd
      have hbD : s.length + Rows.uptoBulk y2.1 + Rows.uptoBulk y3.1 + 1 ≤ Rows.uptoBulk (D i) := by
        rw [hd]; simp only [Rows.uptoBulk, Rows.uptoBulkAll]; omega
      obtain ⟨nm, ha1, ha2⟩ := open_names t2 (by omega)
      obtain ⟨ks, hk1, hk2, hk3⟩ := ih (Rows.uptoBulk y3.1) (by omega) k v3 y3 rfl t3 (by omega)
      refine ⟨(.mk p s nm ks, v2, v3), fun j hj => ?_, IsE.of ha1 hk1, by simp only [Ex.mass]; omega, ⟨wf, fitL_all hk3⟩⟩
      have := hcell j hj
      rw [add_add] at this
      rw [this]
      rfl
    have inh : Inhabited (Ex × Value × Value) := ⟨(default, undef, undef)⟩
    obtain ⟨q, hq⟩ := choose_lt each
    have hlen : ((List.range len).map q).length = len := by simp
    have hbulk : massL (((List.range len).map q).map (·.1)) ≤ Rows.uptoBulkAll ((List.range len).map D) := by
      rw [massL_sum, List.map_map, List.map_map]
      exact bulk_all D _ _ fun i hi => (hq i (List.mem_range.1 hi)).2.2.1
    refine ⟨((List.range len).map q).map (·.1), ⟨(List.range len).map q, rfl, ?_, fun z hz => ?_⟩, by omega, fun z hz => ?_⟩
    · have hll : len ≤ massL (((List.range len).map q).map (·.1)) := by
        have h1 := sizeL_len (((List.range len).map q).map (·.1))
        have h2 := sizeL_mass (((List.range len).map q).map (·.1))
        simp only [List.length_map, List.length_range] at h1
        omega
      have := Row.flat (k := 4) (by omega) (f := ecells) (fun _ => rfl) (w := w) (l := (List.range len).map q) (a := a) (c := cap) (by omega) hm
        (by omega)
        (fun i j z hz hj => by
          have hi : i < len := by have := (List.getElem?_eq_some_iff.1 hz).1; rwa [hlen] at this
          have : z = q i := by simpa [hi] using hz.symm
          subst this
          exact (hq i hi).1 j hj)
      rw [hlen] at this
      rw [hlen]
      exact this
    · obtain ⟨i, hi, rfl⟩ := List.mem_map.1 hz
      exact (hq i (List.mem_range.1 hi)).2.1
    · obtain ⟨y, hy, rfl⟩ := List.mem_map.1 hz
      obtain ⟨i, hi, rfl⟩ := List.mem_map.1 hy
      exact (hq i (List.mem_range.1 hi)).2.2.2
/-- An expression that came in. -/
theorem arg_expr {b0 : Nat} {v : Value} {d : DataW H} {ps : List MemPlace} (hval : Value.okWide Tryz.prog w .any b0 25 v) (h : DataW.Trod enc Tryz.prog w 0 (fun _ => true) true 25 v d ps) (hs : Rows.uptoBulk d ≤ 281474976710656) :
    ∃ (e : Ex) (ao : Option Addr) (an ac : Nat) (po : Option Addr) (pn pc : Nat), v = exV e (.slice ao an ac) (.slice po pn pc) ∧ IsE w e (.slice ao an ac) (.slice po pn pc) ∧ e.mass ≤ Rows.uptoBulk d ∧ e.fit := by
  have hv : ∃ cs, v = .agg cs := by
    simp only [Value.okWide, Tryz.underlying25] at hval
    obtain ⟨cs, h1, _⟩ := hval
    exact ⟨cs, h1⟩
  obtain ⟨cs, rfl⟩ := hv
  obtain ⟨fuel, hf⟩ := h
  obtain ⟨p, s, v2, v3, y2, y3, k, hc, wf, t2, t3, hd⟩ := open_cells hf
  dsimp only at hd
  have hb : s.length + Rows.uptoBulk y2.1 + Rows.uptoBulk y3.1 + 1 ≤ Rows.uptoBulk d := by
    rw [hd]; simp only [Rows.uptoBulk, Rows.uptoBulkAll]; omega
  obtain ⟨nm, ha1, ha2⟩ := open_names t2 (by omega)
  obtain ⟨ks, hk1, hk2, hk3⟩ := open_parts _ k v3 y3 rfl t3 (by omega)
  have hn : IsE w (.mk p s nm ks) v2 v3 := IsE.of ha1 hk1
  obtain ⟨o2, n2, c2, rfl⟩ := Strs.form ha1
  obtain ⟨o3, n3, c3, rfl⟩ := hk1.form
  refine ⟨.mk p s nm ks, _, _, _, _, _, _, ?_, hn, by simp only [Ex.mass]; omega, ⟨wf, fitL_all hk3⟩⟩
  have h2 := congrArg List.toArray (show cs.toList = _ from hc)
  rw [Array.toArray_toList] at h2
  unfold exV
  rw [h2]
  rfl
end
end Go.Proofs.YtkmdclfkmmlloaaGreatDoor.Xp
