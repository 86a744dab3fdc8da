/- Layer 4: contract of great: how much there is. | Layer 4: the walk of the statement XmltokBack. -/
import Derived.Test.YthodmdfbahkflaaGreatDoorTkB
import Derived.Deep.LoopGhost
import Derived.Test.YthodmdfbahkflaaGreatDoorTkR
set_option linter.unusedVariables false
set_option linter.unusedSimpArgs false
namespace Go.Proofs.YthodmdfbahkflaaGreatDoor.Tok
open Go Go.Proofs.YthodmdfbahkflaaGreatDoor Go.Proofs.YthodmdfbahkflaaGreatDoor.Utf Go.Proofs.YthodmdfbahkflaaGreatDoor.Names Go.Proofs.YthodmdfbahkflaaGreatDoor.Ent Go.RowKit
set_option maxRecDepth 100000

def part {α : Type} (f : α → Nat) (l : List α) (k : Nat) : Nat := ((l.take k).map f).sum
end Go.Proofs.YthodmdfbahkflaaGreatDoor.Tok
namespace Go.Proofs.YthodmdfbahkflaaGreatDoor.Tok
open Go Go.Proofs.YthodmdfbahkflaaGreatDoor Go.Proofs.YthodmdfbahkflaaGreatDoor.Utf Go.Proofs.YthodmdfbahkflaaGreatDoor.Names Go.Proofs.YthodmdfbahkflaaGreatDoor.Ent Go.RowKit
set_option maxRecDepth 100000

theorem wr_err : ∀ (l : List Tok) (ahead : Int) (i e : Nat), wr ahead l = .bad i e → e ≠ 0
  | [], ahead, i, e, h => by unfold wr at h; cases h
  | t :: r, ahead, i, e, h => by
    cases ht : tokW ahead t with
    | bad j x =>
      rw [wr_bad ht] at h
      injection h with _ h
      rw [← h]; exact tokW_bad ht
    | ok u n =>
      rw [wr_ok ht] at h
      cases hr : wr t.kind r with
      | bad j x =>
        rw [hr] at h
        unfold joinR at h
        injection h with _ h
        rw [← h]; exact wr_err r _ _ _ hr
      | ok s m => rw [hr] at h; cases h
theorem costA_mass : ∀ l : List Pr, costA l ≤ 20 * prsMass l
  | [] => by simp [costA]
  | p :: l => by
    have := costA_mass l
    unfold prsMass at this ⊢
    simp only [costA, List.map_cons, List.sum_cons]
    have h1 : prMass p = 1 + p.name.length + p.value.length := rfl
    omega
theorem costT_mass : ∀ l : List Tok, costT l ≤ 20 * toksMass l
  | [] => by simp [costT]
  | t :: l => by
    have h1 := costT_mass l
    have h2 := costA_mass t.attrs
    unfold toksMass at h1 ⊢
    simp only [costT, List.map_cons, List.sum_cons]
    have h3 : tokMass t = 1 + t.s.length + prsMass t.attrs := rfl
    omega
theorem mem_sum {α : Type} (f : α → Nat) (l : List α) (x : α) (h : x ∈ l) : f x ≤ (l.map f).sum := by
  induction l with
  | nil => cases h
  | cons y l ih =>
    simp only [List.map_cons, List.sum_cons]
    rcases List.mem_cons.1 h with rfl | h
    · omega
    · have := ih h; omega
end Go.Proofs.YthodmdfbahkflaaGreatDoor.Tok
