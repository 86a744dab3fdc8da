/- Layer 14: contracts of the heap: its type's Pop; which method a call through the interface meets; container/heap's up, down, Push, Pop. -/
import Derived.Test.YtkpmkabddhpojaaOrD
set_option linter.unusedVariables false
set_option linter.unusedSimpArgs false
namespace Go.Proofs.Ytkpmkabddhpojaa.Or
open Go Go.Proofs.Ytkpmkabddhpojaa Go.RowKit
set_option maxRecDepth 100000

theorem own_form {B : Nat} {w : World} {v : Value} {l : List Nat} {k : Nat} (h : w.ownsRow B 3 1 v (l ++ [k]).length (nums (l ++ [k]))) : ∃ g cap, v = .slice (some ⟨g, 0, none⟩) (l.length + 1) cap ∧ l.length + 1 ≤ cap ∧ cap ≤ maxLen ∧ w.ownsRow B 3 1 (.slice (some ⟨g, 0, none⟩) l.length cap) l.length (nums l) ∧ w.cell? ⟨g, l.length, none⟩ = some (encN k) := by
  rcases h.2 with ⟨_, h0⟩ | ⟨g, cap, cur, rfl, h3, h4, h5, h6, h7, h8⟩
  · simp at h0
  · have h5' : l.length + 1 ≤ cap := by simpa using h5
    refine ⟨g, cap, by simp, h5', h6, ⟨by simp, .inr ⟨g, cap, cur, rfl, h3, h4, by omega, h6, h7, ?_⟩⟩, ?_⟩
    · have := congrArg (List.take l.length) h8
      rw [List.take_take] at this
      simpa [Nat.min_eq_left] using this
    · have := congrArg (fun x => x[l.length]?) h8
      simp only [Nat.mul_one, List.getElem?_take] at this
      rw [Lib.cell_of_heap h4]
      simpa using this
set_option maxHeartbeats 2000000 in
theorem Pop0_any {B R : Nat} {w : World} {v : Value} {l : List Nat} {k : Nat} (h : Hp B R w v (l ++ [k])) (hl : l.length ≤ 1000000) :
    Calls Try.prog 79 #[.pointer (some ⟨R, 0, none⟩)] w fun e w' => e = .returned (.iface 3 (.int .i64 k)) ∧ ∃ v', Hp B R w' v' l ∧ v'.ownBlock = v.ownBlock ∧ Kx (fun b => b = R) w w' := by
  obtain ⟨g, cap, rfl, hc1, hc2, ho, hck⟩ := own_form h.own
  have hc := h.cell
  have hf := h.open_
  have hap := h.apart
  have hsl : ∀ kh W, (Instr.slice 56 (.slice (some ⟨g, 0, none⟩) (l.length + 1) cap) none (some (.int kh (l.length : Int))) none).run Try.prog W = .ok (.slice (some ⟨g, 0, none⟩) l.length cap) W := by
    intro kh W
    have h1 : (l.length : Int) ≤ (cap : Int) := by omega
    have h2 : cap ≠ 0 := by omega
    simp [Instr.slice, run_underlying Try.underlying56, Instr.sliceBounds, run_sliceBound, sliced, Try.sizeOf3, h1, h2, Addr.add_lit]
  have hR : (w.setCell ⟨R, 0, none⟩ (.slice (some ⟨g, 0, none⟩) l.length cap)).heap[R]? = some (.cells #[.slice (some ⟨g, 0, none⟩) l.length cap] 56) := by
    simp [World.setCell, Array.getElem?_modify, h.box]
  have hgR : g ≠ R := fun e => hap (by rw [e]; rfl)
  have HP := hid (show Hp B R (w.setCell ⟨R, 0, none⟩ (.slice (some ⟨g, 0, none⟩) l.length cap)) (.slice (some ⟨g, 0, none⟩) l.length cap) l from ⟨hR, owns_kx ho (Kx.set (S := fun b => b = R) w R 0 _ rfl) (fun b e e' => hgR ((Option.some.inj e).trans e'))⟩)
  have hix : ∀ kk W, (Instr.indexAt 56 (.slice (some ⟨g, 0, none⟩) (l.length + 1) cap) (.int kk (l.length : Int))).run Try.prog W = .ok (.pointer (some ⟨g, l.length, none⟩)) W := by
    intro kk W
    simp [Instr.indexAt, asIntOf, run_underlying Try.underlying56, Try.sizeOf3, Addr.add_lit]
    try omega
  simp only [encN] at hck
  clear h ho hap hR
  go_enter Try.func79, Try.ntmps79
  go_wp2
  go_ret
  exact ⟨rfl, _, HP.out, rfl, Kx.set w R 0 _ rfl⟩

theorem wrap_nil {P : Program} (ts : Array TypeId) (ty : TypeId) (a : Addr) (s1 s2 : ByteArray) (w : World) : (Builtin.ssaWrapNilChk_ ts ty #[.pointer (some a), .string s1, .string s2]).run P w = .ok (.pointer (some a)) w := rfl
section
variable {R : Nat} {v : Value}
/-- The method that a call through the heap's interface meets. -/
theorem finds (nm : String) (f : Nat) (ptr : Bool) (h : ((Try.prog.info? 55).bind fun i => (i.methods.find? (·.name == nm)).map fun m => (m.path, m.func)) = some (#[], some (f, ptr))) (a : Addr) (w : World) (hv : ptr = false → (loadVar 56 a).run Try.prog w = .ok v w) (n : Nat) :
    (method (n + 1) 55 (.pointer (some a)) nm).run Try.prog w = .ok (f, if ptr then .pointer (some a) else v) w := by
  obtain ⟨i, hi, h1⟩ : ∃ i, Try.prog.info? 55 = some i ∧ (i.methods.find? (·.name == nm)).map (fun m => (m.path, m.func)) = some (#[], some (f, ptr)) := by
    cases hq : Try.prog.info? 55 with
    | none => rw [hq] at h; cases h
    | some i => rw [hq] at h; exact ⟨i, rfl, h⟩
  obtain ⟨m, hm, h2⟩ : ∃ m, i.methods.find? (·.name == nm) = some m ∧ (m.path, m.func) = (#[], some (f, ptr)) := by
    cases hq : i.methods.find? (·.name == nm) with
    | none => rw [hq] at h1; cases h1
    | some m => rw [hq] at h1; exact ⟨m, rfl, by simpa using h1⟩
  have h3 : m.path = #[] := congrArg Prod.fst h2
  have h4 : m.func = some (f, ptr) := congrArg Prod.snd h2
  have hu : Try.prog.underlying 55 = some (.pointer 56) := Try.underlying55
  cases ptr with
  | true => simp [method, typeInfo, hi, hm, follow, receiverAt, run_underlying hu, h3, h4, Place.get]
  | false =>
    have := hv rfl
    simp [method, typeInfo, hi, hm, follow, receiverAt, run_underlying hu, h3, h4, Place.get, strVal, wrap_nil, asAddr, this]
end
end Go.Proofs.Ytkpmkabddhpojaa.Or
