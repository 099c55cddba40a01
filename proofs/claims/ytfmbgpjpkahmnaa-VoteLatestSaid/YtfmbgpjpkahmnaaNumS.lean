/-
  []uint64: append, s[n:], an argument; in any translation that has it. (written by wip/mkslice.py)
-/
import Derived.Test.YtfmbgpjpkahmnaaPn
namespace Go.Proofs.Ytfmbgpjpkahmnaa
open Go.RowKit
theorem info_num : (Try.prog.info? 23).map (fun i => (i.zero, i.size, i.bytes)) = some (some (num 0), 1, 8) := by kernel_rfl
theorem Knum : Known Try.prog Enum 39 := ⟨Try.underlying39, num 0, 8, info_num, rfl, by decide⟩
@[go_sem ↓] theorem slice_from_num (ρ : Operand → Value) (dst : Option Tmp) (x lo : Operand) (ty : TypeId) (pos : String) (after : Array Edge) (guard : Option (Nat × Bool)) (w : World) :
    (execOp ρ { dst, op := .slice 39 x (some lo) none none, type := ty, pos, after, guard }).run Try.prog w = vOutE (cutFE 1 (ρ x) (ρ lo)) w (opRest Try.prog ρ { dst, op := .slice 39 x (some lo) none none, type := ty, pos, after, guard } w) :=
  slice_from_E Try.underlying39 Try.sizeOf23 ρ dst x lo ty pos after guard w
section
open Go.WideShapes Go.ChangeShapes
variable {H : Type} {enc : TypeId × Value → H} {w : World} {base : Nat} {sp : Nat → Bool} {held : Bool}
/-- A slice's one cell. -/
theorem cell_nums {fuel : Nat} {v : Value} {x : DataW H × List MemPlace} (h : DataW.trod enc Try.prog w base sp held fuel 39 [v] = some x) : ∃ l : List UInt64, SlE Enum w v l :=
  cells_E Try.underlying39 cellsOf_num (fun _ _ _ h => cells_num h) h
theorem open_nums {r : Reach} {b0 : Nat} {v : Value} {d : DataW H} {ps : List MemPlace} (hval : Value.okWide Try.prog w r b0 39 v) (hd : DataW.Trod enc Try.prog w base sp held 39 v d ps) : ∃ l : List UInt64, SlE Enum w v l := by
  obtain ⟨a, len, cap, rfl⟩ := okWide_slice Try.underlying39 hval
  obtain ⟨fuel, hf⟩ := hd
  exact cell_nums hf
end
end Go.Proofs.Ytfmbgpjpkahmnaa
