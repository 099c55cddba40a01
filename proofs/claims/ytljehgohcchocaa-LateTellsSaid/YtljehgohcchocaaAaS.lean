/-
  []api.Att: append, s[n:], an argument; in any translation that has it. (written by wip/mkslice.py)
-/
import Derived.Test.YtljehgohcchocaaAa
import Derived.Test.YtljehgohcchocaaSv
namespace Go.Proofs.Ytljehgohcchocaa
open Go.RowKit
set_option maxRecDepth 100000
theorem info_aa : (Try.prog.info? 29).map (fun i => (i.zero, i.size, i.bytes)) = some (some (.agg (aa zaa)), 100, 128) := by kernel_rfl
theorem Kaa : Known Try.prog Eaa 22 := ⟨Try.underlying22, .agg (aa zaa), 128, info_aa, by show ((aa zaa)).size = _; exact aa_size _, by decide⟩
@[go_sem ↓] theorem slice_from_aa (ρ : Operand → Value) (dst : Option Tmp) (x lo : Operand) (ty : TypeId) (pos : String) (after : Array Edge) (guard : Option (Nat × Bool)) (w : World) :
    (execOp ρ { dst, op := .slice 22 x (some lo) none none, type := ty, pos, after, guard }).run Try.prog w = vOutE (cutFE 100 (ρ x) (ρ lo)) w (opRest Try.prog ρ { dst, op := .slice 22 x (some lo) none none, type := ty, pos, after, guard } w) :=
  slice_from_E Try.underlying22 Try.sizeOf29 ρ dst x lo ty pos after guard w
@[go_sem ↓] theorem buildSlice_aa (ρ : Operand → Value) (dst : Option Tmp) (x : Operand) (ty : TypeId) (pos : String) (after : Array Edge) (guard : Option (Nat × Bool)) (w : World) (hx : okA 100 (ρ x) = true) :
    (execOp ρ { dst, op := .buildSlice 22 1 #[(0, x)], type := ty, pos, after, guard }).run Try.prog w = .ok (.value (.slice (some ⟨w.heap.size, 0, none⟩) 1 1)) (w.alloc (.cells (cellsA (ρ x)) 29)) := by
  obtain ⟨c, hc, hn⟩ : ∃ c, ρ x = .agg c ∧ c.size = 100 := by
    unfold okA at hx
    split at hx
    · rename_i c hc
      rw [Bool.and_eq_true, beq_iff_eq] at hx
      exact ⟨c, hc, hx.1⟩
    · cases hx
  have hp : (1 * 100 > 2 ^ 24) = False := by simp
  have h0 : (1 * 100 = 0) = False := by simp
  unfold execOp
  simp only [Instr.buildSlice, Sem.run_bind, run_underlying Try.underlying22, Result.andThen_ok, Try.sizeOf29, hp, h0, if_false, zero_aa, Value.cells]
  simp only [List.map_toArray, List.map_cons, List.map_nil, hc, Instr.fill, Value.cells, hn, Nat.zero_mul]
  simp [cellsA]
  rw [foldl_zip _ c (by simp [hn])]
  rfl
section
open Go.WideShapes Go.ChangeShapes
variable {H : Type} {enc : TypeId × Value → H} {w : World} {base : Nat} {sp : Nat → Bool} {held : Bool}
set_option maxRecDepth 100000 in
/-- A slice's one cell. -/
theorem cell_aas {fuel : Nat} {v : Value} {x : DataW H × List MemPlace} (h : DataW.trod enc Try.prog w base sp held fuel 22 [v] = some x) : ∃ l : List Aa, SlE Eaa w v l :=
  cells_E Try.underlying22 cellsOf_aa (fun _ cs _ h => cells_aa (by obtain ⟨_, _, _, _, hl, _⟩ := DataW.trod_struct under_aa h; rw [hl, cellsOf_aa]) h) h
set_option maxRecDepth 100000 in
theorem cells_aas {fuel : Nat} {cs : List Value} {x : DataW H × List MemPlace} (h : DataW.trod enc Try.prog w base sp held fuel 22 cs = some x) : ∃ s : SlV, cs = [sv s] ∧ ∃ l : List Aa, SlE Eaa w (sv s) l := by
  rcases Deep.open_slice Try.underlying22 h with ⟨h1, _⟩ | ⟨a', len', cap', _, _, _, _, h1, _⟩
  · subst h1
    exact ⟨⟨none, 0, 0⟩, rfl, [], slE_nil _ _ _ _⟩
  · subst h1
    exact ⟨⟨some a', len', cap'⟩, rfl, cell_aas h⟩
set_option maxRecDepth 100000 in
theorem open_aas {r : Reach} {b0 : Nat} {v : Value} {d : DataW H} {ps : List MemPlace} (hval : Value.okWide Try.prog w r b0 22 v) (hd : DataW.Trod enc Try.prog w base sp held 22 v d ps) : ∃ l : List Aa, SlE Eaa w v l := by
  obtain ⟨a, len, cap, rfl⟩ := okWide_slice Try.underlying22 hval
  obtain ⟨fuel, hf⟩ := hd
  exact cell_aas hf
end
end Go.Proofs.Ytljehgohcchocaa
