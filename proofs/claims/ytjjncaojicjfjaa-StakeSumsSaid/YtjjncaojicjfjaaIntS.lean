/-
  []int: append, s[n:], an argument; in any translation that has it. (written by wip/mkslice.py)
-/
import Derived.Test.YtjjncaojicjfjaaPn
namespace Go.Proofs.Ytjjncaojicjfjaa
open Go.RowKit
theorem info_int : (Try.prog.info? 3).map (fun i => (i.zero, i.size, i.bytes)) = some (some (.int .i64 0), 1, 8) := by kernel_rfl
theorem Kint : Known Try.prog Eint 26 := ⟨Try.underlying26, .int .i64 0, 8, info_int, rfl, by decide⟩
@[go_sem ↓] theorem slice_from_int (ρ : Operand → Value) (dst : Option Tmp) (x lo : Operand) (ty : TypeId) (pos : String) (after : Array Edge) (guard : Option (Nat × Bool)) (w : World) :
    (execOp ρ { dst, op := .slice 26 x (some lo) none none, type := ty, pos, after, guard }).run Try.prog w = vOutE (cutFE 1 (ρ x) (ρ lo)) w (opRest Try.prog ρ { dst, op := .slice 26 x (some lo) none none, type := ty, pos, after, guard } w) :=
  slice_from_E Try.underlying26 Try.sizeOf3 ρ dst x lo ty pos after guard w
section
open Go.WideShapes Go.ChangeShapes
variable {H : Type} {enc : TypeId × Value → H} {w : World} {base : Nat} {sp : Nat → Bool} {held : Bool}
/-- A slice's one cell. -/
theorem cell_ints {fuel : Nat} {v : Value} {x : DataW H × List MemPlace} (h : DataW.trod enc Try.prog w base sp held fuel 26 [v] = some x) : ∃ l : List Int, SlE Eint w v l :=
  cells_E Try.underlying26 cellsOf_int (fun _ _ _ h => cells_int h) h
theorem open_ints {r : Reach} {b0 : Nat} {v : Value} {d : DataW H} {ps : List MemPlace} (hval : Value.okWide Try.prog w r b0 26 v) (hd : DataW.Trod enc Try.prog w base sp held 26 v d ps) : ∃ l : List Int, SlE Eint w v l := by
  obtain ⟨a, len, cap, rfl⟩ := okWide_slice Try.underlying26 hval
  obtain ⟨fuel, hf⟩ := hd
  exact cell_ints hf
end
end Go.Proofs.Ytjjncaojicjfjaa
