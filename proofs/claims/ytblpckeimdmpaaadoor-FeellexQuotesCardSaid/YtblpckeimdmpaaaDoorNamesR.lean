/- Layer 2: contracts of the document's own answers: chars, Plain. -/
import Derived.Test.YtblpckeimdmpaaaDoorNamesA
import Derived.Test.YtblpckeimdmpaaaDoorUtfG
import Derived.Test.YtblpckeimdmpaaaDoorApp
set_option linter.unusedVariables false
set_option linter.unusedSimpArgs false
namespace Go.Proofs.YtblpckeimdmpaaaDoor.Names
open Go Go.Proofs.YtblpckeimdmpaaaDoor Go.Proofs.YtblpckeimdmpaaaDoor.Utf Go.RowKit
set_option maxRecDepth 100000

theorem sizeI (W : World) : (sizeOf 3).run Tryd.prog W = .ok 1 W := Tryd.sizeOf3 W
theorem infoI : (Tryd.prog.info? 3).map (fun i => (i.zero, i.size, i.bytes)) = some (some (.int .i64 0), 1, 8) := by kernel_rfl

def ints (cs : List Nat) : List Int := cs.map fun (c : Nat) => (c : Int)
theorem ints_len (cs : List Nat) : (ints cs).length = cs.length := by simp [ints]
theorem ints_snoc (cs : List Nat) (c : Nat) : ints (cs ++ [c]) = ints cs ++ [(c : Int)] := by simp [ints]

/-! words -/
def shpC (p q : Int → Bool) : Option (List Nat) → Bool
  | some (c :: cs) => p c && cs.all (fun c => q c)
  | _ => false
theorem shp_eq (p q : Int → Bool) (l : List UInt8) : shp p q l = shpC p q (chars l) := by unfold shp shpC; rfl
theorem all_take (q : Int → Bool) (cs : List Nat) (k : Nat) (hk : k < cs.length) : (cs.take (k + 1)).all (fun c => q c) = ((cs.take k).all (fun c => q c) && q (cs[k] : Nat)) := by
  rw [List.take_succ_eq_append_getElem hk, List.all_append]; simp
theorem all_stop (q : Int → Bool) (cs : List Nat) (k : Nat) (hk : k < cs.length) (h : q (cs[k] : Nat) = false) : cs.all (fun c => q c) = false := by
  rw [List.all_eq_false]; exact ⟨cs[k], List.getElem_mem hk, by simp [h]⟩

end Go.Proofs.YtblpckeimdmpaaaDoor.Names
