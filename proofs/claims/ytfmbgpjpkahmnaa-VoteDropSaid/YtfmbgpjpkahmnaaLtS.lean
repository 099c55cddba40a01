/-
  []api.Latest: append, s[n:], an argument; in any translation that has it. (written by wip/mkslice.py)
-/
import Derived.Test.YtfmbgpjpkahmnaaLt
import Derived.Test.YtfmbgpjpkahmnaaSv
namespace Go.Proofs.Ytfmbgpjpkahmnaa
open Go.RowKit
theorem info_lt : (Try.prog.info? 41).map (fun i => (i.zero, i.size, i.bytes)) = some (some (.agg (lt zlt)), 34, 48) := by kernel_rfl
theorem Klt : Known Try.prog Elt 22 := ⟨Try.underlying22, .agg (lt zlt), 48, info_lt, by show ((lt zlt)).size = _; exact lt_size _, by decide⟩
@[go_sem ↓] theorem slice_from_lt (ρ : Operand → Value) (dst : Option Tmp) (x lo : Operand) (ty : TypeId) (pos : String) (after : Array Edge) (guard : Option (Nat × Bool)) (w : World) :
    (execOp ρ { dst, op := .slice 22 x (some lo) none none, type := ty, pos, after, guard }).run Try.prog w = vOutE (cutFE 34 (ρ x) (ρ lo)) w (opRest Try.prog ρ { dst, op := .slice 22 x (some lo) none none, type := ty, pos, after, guard } w) :=
  slice_from_E Try.underlying22 Try.sizeOf41 ρ dst x lo ty pos after guard w
@[go_sem ↓] theorem buildSlice_lt (ρ : Operand → Value) (dst : Option Tmp) (x : Operand) (ty : TypeId) (pos : String) (after : Array Edge) (guard : Option (Nat × Bool)) (w : World) (hx : okA 34 (ρ x) = true) :
    (execOp ρ { dst, op := .buildSlice 22 1 #[(0, x)], type := ty, pos, after, guard }).run Try.prog w = .ok (.value (.slice (some ⟨w.heap.size, 0, none⟩) 1 1)) (w.alloc (.cells (cellsA (ρ x)) 41)) := by
  obtain ⟨c, hc, hn⟩ : ∃ c, ρ x = .agg c ∧ c.size = 34 := by
    unfold okA at hx
    split at hx
    · rename_i c hc
      rw [Bool.and_eq_true, beq_iff_eq] at hx
      exact ⟨c, hc, hx.1⟩
    · cases hx
  have hp : (1 * 34 > 2 ^ 24) = False := by simp
  have h0 : (1 * 34 = 0) = False := by simp
  unfold execOp
  simp only [Instr.buildSlice, Sem.run_bind, run_underlying Try.underlying22, Result.andThen_ok, Try.sizeOf41, hp, h0, if_false, zero_lt, Value.cells]
  simp only [List.map_toArray, List.map_cons, List.map_nil, hc, Instr.fill, Value.cells, hn, Nat.zero_mul]
  simp [cellsA]
  rw [foldl_zip _ c (by simp [hn])]
  rfl
section
open Go.WideShapes Go.ChangeShapes
variable {H : Type} {enc : TypeId × Value → H} {w : World} {base : Nat} {sp : Nat → Bool} {held : Bool}
/-- A slice's one cell. -/
theorem cell_lts {fuel : Nat} {v : Value} {x : DataW H × List MemPlace} (h : DataW.trod enc Try.prog w base sp held fuel 22 [v] = some x) : ∃ l : List Lt, SlE Elt w v l :=
  cells_E Try.underlying22 cellsOf_lt (fun _ cs _ h => cells_lt (by obtain ⟨_, _, _, _, hl, _⟩ := DataW.trod_struct under_lt h; rw [hl, cellsOf_lt]) h) h
theorem cells_lts {fuel : Nat} {cs : List Value} {x : DataW H × List MemPlace} (h : DataW.trod enc Try.prog w base sp held fuel 22 cs = some x) : ∃ s : SlV, cs = [sv s] ∧ ∃ l : List Lt, SlE Elt w (sv s) l := by
  rcases Deep.open_slice Try.underlying22 h with ⟨h1, _⟩ | ⟨a', len', cap', _, _, _, _, h1, _⟩
  · subst h1
    exact ⟨⟨none, 0, 0⟩, rfl, [], slE_nil _ _ _ _⟩
  · subst h1
    exact ⟨⟨some a', len', cap'⟩, rfl, cell_lts h⟩
theorem open_lts {r : Reach} {b0 : Nat} {v : Value} {d : DataW H} {ps : List MemPlace} (hval : Value.okWide Try.prog w r b0 22 v) (hd : DataW.Trod enc Try.prog w base sp held 22 v d ps) : ∃ l : List Lt, SlE Elt w v l := by
  obtain ⟨a, len, cap, rfl⟩ := okWide_slice Try.underlying22 hval
  obtain ⟨fuel, hf⟩ := hd
  exact cell_lts hf
end
end Go.Proofs.Ytfmbgpjpkahmnaa
