/- Layer 10: an expression that came in as an argument, however great. -/
import Derived.Test.YtlhhjocfbafoeaaGreatDoorXpO
set_option linter.unusedVariables false
set_option linter.unusedSimpArgs false
namespace Go.Proofs.YtlhhjocfbafoeaaGreatDoor.Xp
open Go Go.Proofs.YtlhhjocfbafoeaaGreatDoor Go.ChangeShapes Go.WideShapes Go.ChangeAt Go.RowKit Go.Deep
set_option maxRecDepth 100000
section
variable {H : Type} {enc : TypeId × Value → H} {w : World} {base : Nat} {spare : Nat → Bool} {held : Bool}
theorem bytesE : Tryz.prog.bytesOf 25 = 72 := by kernel_rfl
theorem bytesS : Tryz.prog.bytesOf 9 = 16 := by kernel_rfl
theorem weightsAll_mem {P : Program} {e : TypeId} : ∀ {ds : List (DataW H)} {d : DataW H} {m : Nat}, d ∈ ds → m ∈ d.weights P e → m ∈ DataW.weightsAll P e ds
  | [], d, m, h, _ => by cases h
  | y :: ds, d, m, h, hm => by
    unfold DataW.weightsAll
    rcases List.mem_cons.1 h with rfl | h
    · exact List.mem_append.2 (.inl hm)
    · exact List.mem_append.2 (.inr (weightsAll_mem h hm))
/-- None of its weights is more than there are addresses. -/
def Light (t : TypeId) (d : DataW H) : Prop := ∀ m ∈ d.weights Tryz.prog t, m ≤ 140737488355328
theorem Light.parts {p : Int} {a : List UInt8} {y2 y3 : DataW H} (h : Light 25 (.agg [.lit (.int .i64 p), .lit (.string a), y2, y3])) : Light 22 y2 ∧ Light 23 y3 := by
  unfold Light at h ⊢
  simp only [DataW.weights, Tryz.underlying25] at h
  constructor
  · intro m hm
    refine h m ?_
    simp [DataW.weightsEach, DataW.weights, hm]
  · intro m hm
    refine h m ?_
    simp [DataW.weightsEach, DataW.weights, hm]
theorem open_names_wide {fuel : Nat} {v : Value} {x : DataW H × List MemPlace} (h : DataW.trod enc Tryz.prog w base spare held fuel 22 [v] = some x) (hs : Light 22 x.1) :
    ∃ l : List Nam, Strs w v l := by
  obtain ⟨l, hl, _⟩ := Sc.open_strs_row undS uStr celStr h fun a n c e => by
    rcases open_strings undS uStr celStr h with ⟨hv, _⟩ | ⟨a', len, cap, ss, hv, hbs, hl, hm, hlen, hx, hcell, hmax⟩
    · rw [e] at hv; simp at hv
    · obtain ⟨rfl, rfl, rfl⟩ : n = len ∧ c = cap ∧ a = a' := by rw [e] at hv; simp at hv; exact ⟨hv.2.1, hv.2.2, hv.1⟩
      have hsl : n ≤ ss.length := by rw [hlen]; split <;> omega
      rw [hx] at hs
      have := hs ((strs (H := H) (ss.take n)).length * 16 + (strs (H := H) (ss.drop n)).length * 16) (by
        simp only [DataW.weights, undS, bytesS]
        rw [← Nat.add_mul]
        exact List.mem_cons_self ..)
      simp only [strs, List.length_map, List.length_take, List.length_drop] at this
      omega
  exact ⟨l, hl⟩
theorem open_parts_wide : ∀ (N : Nat) (fuel : Nat) (v : Value) (x : DataW H × List MemPlace), Rows.uptoBulk x.1 = N → DataW.trod enc Tryz.prog w base spare held fuel 23 [v] = some x → Light 23 x.1 →
    ∃ l : List Ex, Exs w v l := by
  intro N
  induction N using Nat.strongRecOn with
  | _ N ih =>
    intro fuel v x hN h hs
    rcases open_slice Tryz.underlying23 h with ⟨hv, _⟩ | ⟨a, len, cap, m, n, D, Pl, hv, hb, hl, hm, hmm, rfl, hx⟩
    · obtain rfl : v = .slice none 0 0 := by simpa using hv
      exact ⟨[], Exs.nil w⟩
    obtain rfl : v = .slice (some a) len cap := by simpa using hv
    have hlm : len ≤ m := by rw [hmm]; split <;> omega
    have hle : Rows.uptoBulkAll ((List.range len).map D) + 1 ≤ N := by
      rw [← hN]; simp only [Rows.uptoBulk]; omega
    have hsl : ∀ i, i < len → Light 25 (D i) := fun i hi q hq => hs q (by
      simp only [DataW.weights, Tryz.underlying23]
      exact List.mem_cons_of_mem _ (List.mem_append.2 (.inl (weightsAll_mem (List.mem_map.2 ⟨i, List.mem_range.2 hi, rfl⟩) hq))))
    have hlen0 : len ≤ 281474976710656 := by
      have := hs (((List.range len).map D).length * 72 + ((List.range (m - len)).map fun j => D (len + j)).length * 72) (by
        simp only [DataW.weights, Tryz.underlying23, bytesE]
        rw [← Nat.add_mul]
        exact List.mem_cons_self ..)
      simp only [List.length_map, List.length_range] at this
      omega
    have each : ∀ i, i < len → ∃ q : Ex × Value × Value, (∀ j, j < 4 → w.cell? (a.add (i * 4 + j)) = (ecells q)[j]?) ∧ IsE w q.1 q.2.1 q.2.2 := by
      intro i hi
      have hDi := bulk_mem (D := D) (List.mem_range.2 hi)
      obtain ⟨cs', h1, h2⟩ := hx i (by omega)
      rw [celEx] at h1
      obtain ⟨_, hlen, hcell⟩ := World.cells?_some h1
      obtain ⟨p, s, v2, v3, y2, y3, k, rfl, wf, t2, t3, hd⟩ := open_cells h2
      dsimp only at hd
      have hbD : s.length + Rows.uptoBulk y2.1 + Rows.uptoBulk y3.1 + 1 ≤ Rows.uptoBulk (D i) := by
        rw [hd]; simp only [Rows.uptoBulk, Rows.uptoBulkAll]; omega
      have hli := hsl i hi
      rw [hd] at hli
      obtain ⟨g2, g3⟩ := hli.parts
      obtain ⟨nm, ha1⟩ := open_names_wide t2 g2
      obtain ⟨ks, hk1⟩ := ih (Rows.uptoBulk y3.1) (by omega) k v3 y3 rfl t3 g3
      refine ⟨(.mk p s nm ks, v2, v3), fun j hj => ?_, IsE.of ha1 hk1⟩
      have := hcell j hj
      rw [add_add] at this
      rw [this]
      rfl
    have inh : Inhabited (Ex × Value × Value) := ⟨(default, undef, undef)⟩
    obtain ⟨q, hq⟩ := choose_lt each
    have hlen : ((List.range len).map q).length = len := by simp
    refine ⟨((List.range len).map q).map (·.1), ⟨(List.range len).map q, rfl, ?_, fun z hz => ?_⟩⟩
    · have := Row.flat (k := 4) (by omega) (f := ecells) (fun _ => rfl) (w := w) (l := (List.range len).map q) (a := a) (c := cap) (by omega) hm
        (by omega)
        (fun i j z hz hj => by
          have hi : i < len := by have := (List.getElem?_eq_some_iff.1 hz).1; rwa [hlen] at this
          have : z = q i := by simpa [hi] using hz.symm
          subst this
          exact (hq i hi).1 j hj)
      rw [hlen] at this
      rw [hlen]
      exact this
    · obtain ⟨i, hi, rfl⟩ := List.mem_map.1 hz
      exact (hq i (List.mem_range.1 hi)).2
/-- An expression that came in. -/
theorem arg_expr_wide {b0 : Nat} {v : Value} {d : DataW H} {ps : List MemPlace} (hval : Value.okWide Tryz.prog w .any b0 25 v) (h : DataW.Trod enc Tryz.prog w 0 (fun _ => true) true 25 v d ps) (hs : Light 25 d) :
    ∃ (e : Ex) (ao : Option Addr) (an ac : Nat) (po : Option Addr) (pn pc : Nat), v = exV e (.slice ao an ac) (.slice po pn pc) ∧ IsE w e (.slice ao an ac) (.slice po pn pc) := by
  have hv : ∃ cs, v = .agg cs := by
    simp only [Value.okWide, Tryz.underlying25] at hval
    obtain ⟨cs, h1, _⟩ := hval
    exact ⟨cs, h1⟩
  obtain ⟨cs, rfl⟩ := hv
  obtain ⟨fuel, hf⟩ := h
  obtain ⟨p, s, v2, v3, y2, y3, k, hc, wf, t2, t3, hd⟩ := open_cells hf
  dsimp only at hd
  rw [hd] at hs
  obtain ⟨g2, g3⟩ := hs.parts
  obtain ⟨nm, ha1⟩ := open_names_wide t2 g2
  obtain ⟨ks, hk1⟩ := open_parts_wide _ k v3 y3 rfl t3 g3
  have hn : IsE w (.mk p s nm ks) v2 v3 := IsE.of ha1 hk1
  obtain ⟨o2, n2, c2, rfl⟩ := Strs.form ha1
  obtain ⟨o3, n3, c3, rfl⟩ := hk1.form
  refine ⟨.mk p s nm ks, _, _, _, _, _, _, ?_, hn⟩
  have h2 := congrArg List.toArray (show cs.toList = _ from hc)
  rw [Array.toArray_toList] at h2
  unfold exV
  rw [h2]
  rfl
theorem light_of {d : DataW H} {ts : List TypeId} {ds : List (DataW H)} (hsz : (DataW.weightsEach Tryz.prog ts ds).all (· ≤ reachBytes) = true) (j : Nat) {t : TypeId} (hts : ts[j]? = some t) (hds : ds[j]? = some d) : Light t d := fun m hm =>
  Nat.le_trans (of_decide_eq_true (List.all_eq_true.1 hsz _ (DataW.weights_mem_each (P := Tryz.prog) hts hds m hm))) (by decide)
end
end Go.Proofs.YtlhhjocfbafoeaaGreatDoor.Xp
