/-
  []api.Root: append, s[n:], an argument; in any translation that has it. (written by wip/mkslice.py)
-/
import Derived.Test.YtfmbgpjpkahmnaaPr
import Derived.Test.YtfmbgpjpkahmnaaSv
namespace Go.Proofs.Ytfmbgpjpkahmnaa
open Go.RowKit
theorem info_rt : (Try.prog.info? 27).map (fun i => (i.zero, i.size, i.bytes)) = some (some (.agg (rc zr)), 32, 32) := by kernel_rfl
theorem Krt : Known Try.prog Ert 28 := ⟨Try.underlying28, .agg (rc zr), 32, info_rt, by show ((rc zr)).size = _; exact rc_size _, by decide⟩
@[go_sem ↓] theorem slice_from_rt (ρ : Operand → Value) (dst : Option Tmp) (x lo : Operand) (ty : TypeId) (pos : String) (after : Array Edge) (guard : Option (Nat × Bool)) (w : World) :
    (execOp ρ { dst, op := .slice 28 x (some lo) none none, type := ty, pos, after, guard }).run Try.prog w = vOutE (cutFE 32 (ρ x) (ρ lo)) w (opRest Try.prog ρ { dst, op := .slice 28 x (some lo) none none, type := ty, pos, after, guard } w) :=
  slice_from_E Try.underlying28 Try.sizeOf27 ρ dst x lo ty pos after guard w
section
open Go.WideShapes Go.ChangeShapes
variable {H : Type} {enc : TypeId × Value → H} {w : World} {base : Nat} {sp : Nat → Bool} {held : Bool}
/-- A slice's one cell. -/
theorem cell_rts {fuel : Nat} {v : Value} {x : DataW H × List MemPlace} (h : DataW.trod enc Try.prog w base sp held fuel 28 [v] = some x) : ∃ l : List Rt, SlE Ert w v l :=
  cells_E Try.underlying28 cellsOf_root (fun _ _ _ h => cells_root h) h
theorem cells_rts {fuel : Nat} {cs : List Value} {x : DataW H × List MemPlace} (h : DataW.trod enc Try.prog w base sp held fuel 28 cs = some x) : ∃ s : SlV, cs = [sv s] ∧ ∃ l : List Rt, SlE Ert w (sv s) l := by
  rcases Deep.open_slice Try.underlying28 h with ⟨h1, _⟩ | ⟨a', len', cap', _, _, _, _, h1, _⟩
  · subst h1
    exact ⟨⟨none, 0, 0⟩, rfl, [], slE_nil _ _ _ _⟩
  · subst h1
    exact ⟨⟨some a', len', cap'⟩, rfl, cell_rts h⟩
theorem open_rts {r : Reach} {b0 : Nat} {v : Value} {d : DataW H} {ps : List MemPlace} (hval : Value.okWide Try.prog w r b0 28 v) (hd : DataW.Trod enc Try.prog w base sp held 28 v d ps) : ∃ l : List Rt, SlE Ert w v l := by
  obtain ⟨a, len, cap, rfl⟩ := okWide_slice Try.underlying28 hval
  obtain ⟨fuel, hf⟩ := hd
  exact cell_rts hf
end
end Go.Proofs.Ytfmbgpjpkahmnaa
