/-
  []int: append, s[n:], an argument; in any translation that has it. (written by wip/mkslice.py)
  Lists of ints in memory: one read; what is answered.
  Children, told one by one.
  Lists of ints beside trees.
  []bool: append, an argument, a cell; in any translation that has it.
-/
import Derived.Test.YtanoijcgkacnmaaPn
import Derived.Test.YtanoijcgkacnmaaMem
import Derived.Test.YtanoijcgkacnmaaGN
namespace Go.Proofs.Ytanoijcgkacnmaa
open Go.RowKit
theorem info_int : (Try.prog.info? 3).map (fun i => (i.zero, i.size, i.bytes)) = some (some (.int .i64 0), 1, 8) := by kernel_rfl
theorem Kint : Known Try.prog Eint 36 := ⟨Try.underlying36, .int .i64 0, 8, info_int, rfl, by decide⟩
@[go_sem ↓] theorem slice_from_int (ρ : Operand → Value) (dst : Option Tmp) (x lo : Operand) (ty : TypeId) (pos : String) (after : Array Edge) (guard : Option (Nat × Bool)) (w : World) :
    (execOp ρ { dst, op := .slice 36 x (some lo) none none, type := ty, pos, after, guard }).run Try.prog w = vOutE (cutFE 1 (ρ x) (ρ lo)) w (opRest Try.prog ρ { dst, op := .slice 36 x (some lo) none none, type := ty, pos, after, guard } w) :=
  slice_from_E Try.underlying36 Try.sizeOf3 ρ dst x lo ty pos after guard w
section
open Go.WideShapes Go.ChangeShapes
variable {H : Type} {enc : TypeId × Value → H} {w : World} {base : Nat} {sp : Nat → Bool} {held : Bool}
/-- A slice's one cell. -/
theorem cell_ints {fuel : Nat} {v : Value} {x : DataW H × List MemPlace} (h : DataW.trod enc Try.prog w base sp held fuel 36 [v] = some x) : ∃ l : List Int, SlE Eint w v l :=
  cells_E Try.underlying36 cellsOf_int (fun _ _ _ h => cells_int h) h
theorem open_ints {r : Reach} {b0 : Nat} {v : Value} {d : DataW H} {ps : List MemPlace} (hval : Value.okWide Try.prog w r b0 36 v) (hd : DataW.Trod enc Try.prog w base sp held 36 v d ps) : ∃ l : List Int, SlE Eint w v l := by
  obtain ⟨a, len, cap, rfl⟩ := okWide_slice Try.underlying36 hval
  obtain ⟨fuel, hf⟩ := hd
  exact cell_ints hf
end
end Go.Proofs.Ytanoijcgkacnmaa
namespace Go.Proofs.Ytanoijcgkacnmaa
open Go.RowKit
/-- Numbers are answered, in memory of the call's own. -/
def IntsIs (L : List Int) (w : World) (e : Ending) (w' : World) : Prop := ∃ v, e = .returned v ∧ OwnE Eint w' w.heap.size v L ∧ Below w.heap.size w w'
theorem ints_at {w : World} {b off : Nat} {a : List Int} (h : w.rangeAt b off (cellsE Eint a)) {i : Nat} (hi : i < a.length) : w.cell? ⟨b, off + i, none⟩ = some (.int .i64 (a.getD i 0)) := by
  have := cell_at h hi (j := 0) (v := .int .i64 a[i]) rfl
  rw [List.getD_eq_getElem?_getD, List.getElem?_eq_getElem hi]
  simpa [Eint] using this
theorem ints_ptr {w : World} {p : Option Addr} {n cp : Nat} {a : List Int} (h : SlE Eint w (.slice p n cp) a) (h0 : 0 < a.length) : ∃ b o, p = some ⟨b, o, none⟩ ∧ b < w.heap.size ∧ w.rangeAt b o (cellsE Eint a) := by
  obtain ⟨b, o, c, e, _, q, x⟩ := slE_ne h h0
  injection e with e1 e2 e3
  exact ⟨b, o, e1, q, x⟩
/-- Ints are answered, in whatever memory. -/
def ListIs (L : List Int) (w : World) (e : Ending) (w' : World) : Prop := ∃ v, e = .returned v ∧ SlE Eint w' v L ∧ Below w.heap.size w w'
theorem IntsIs.list {L : List Int} {w w' : World} {e : Ending} (h : IntsIs L w e w') : ListIs L w e w' := by
  obtain ⟨v, h1, h2, h3⟩ := h
  exact ⟨v, h1, ownE_slE h2, h3⟩
end Go.Proofs.Ytanoijcgkacnmaa
namespace Go.Proofs.Ytanoijcgkacnmaa
open Go.RowKit

def kidsUp (l : List Nd) (i j : Nat) : List Int := ((List.range j).filter fun k => decide ((nd l k).parent = (i : Int))).map fun k : Nat => (k : Int)
theorem kidsUp_zero (l : List Nd) (i : Nat) : kidsUp l i 0 = [] := rfl
theorem kidsUp_yes {l : List Nd} {i j : Nat} (h : (nd l j).parent = (i : Int)) : kidsUp l i (j + 1) = kidsUp l i j ++ [(j : Int)] := by
  unfold kidsUp
  rw [List.range_succ, List.filter_append, List.map_append]
  simp [h]
theorem kidsUp_no {l : List Nd} {i j : Nat} (h : (nd l j).parent ≠ (i : Int)) : kidsUp l i (j + 1) = kidsUp l i j := by
  unfold kidsUp
  rw [List.range_succ, List.filter_append, List.map_append]
  simp [h]
theorem kidsUp_len (l : List Nd) (i j : Nat) : (kidsUp l i j).length ≤ j := by
  unfold kidsUp
  rw [List.length_map]
  have := List.length_filter_le (fun k => decide ((nd l k).parent = (i : Int))) (List.range j)
  rwa [List.length_range] at this
def kidsI (l : List Nd) (i : Int) : List Int := (kidsZ l i).map fun k : Nat => (k : Int)
theorem kidsI_nat {l : List Nd} (h : MayT l) {i : Nat} (hi : i < l.length) : kidsI l (i : Int) = kidsUp l i l.length := by
  unfold kidsI
  rw [kidsZ_nat h hi]
  rfl
theorem kidsI_not {l : List Nd} {i : Int} (h : isT l i = false) : kidsI l i = [] := by
  unfold kidsI kidsZ
  rw [h]
  rfl
end Go.Proofs.Ytanoijcgkacnmaa
namespace Go.Proofs.Ytanoijcgkacnmaa
end Go.Proofs.Ytanoijcgkacnmaa
namespace Go.Proofs.Ytanoijcgkacnmaa
open Go.RowKit
def Eboo : Lie Bool := ⟨4, 1, fun b => [.bool b], by decide, fun _ => rfl, fun _ u h => by rw [List.mem_singleton.1 h]; rfl⟩
theorem info_boo : (Try.prog.info? 4).map (fun i => (i.zero, i.size, i.bytes)) = some (some (.bool false), 1, 1) := by kernel_rfl
theorem Kboo : Known Try.prog Eboo 30 := ⟨Try.underlying30, .bool false, 1, info_boo, rfl, by decide⟩
section
open Go.WideShapes Go.ChangeShapes
variable {H : Type} {enc : TypeId × Value → H} {w : World} {base : Nat} {sp : Nat → Bool} {held : Bool}
theorem cell_boos {fuel : Nat} {v : Value} {x : DataW H × List MemPlace} (h : DataW.trod enc Try.prog w base sp held fuel 30 [v] = some x) : ∃ l : List Bool, SlE Eboo w v l :=
  cells_E Try.underlying30 cellsOf_boo (fun _ _ _ h => cells_boo h) h
theorem open_boos {r : Reach} {b0 : Nat} {v : Value} {d : DataW H} {ps : List MemPlace} (hval : Value.okWide Try.prog w r b0 30 v) (hd : DataW.Trod enc Try.prog w base sp held 30 v d ps) : ∃ l : List Bool, SlE Eboo w v l := by
  obtain ⟨a, len, cap, rfl⟩ := okWide_slice Try.underlying30 hval
  obtain ⟨fuel, hf⟩ := hd
  exact cell_boos hf
end
/-- Bool k of a list; false behind its end. -/
def bn (b : List Bool) (k : Nat) : Bool := b.getD k false
theorem bn_at {b : List Bool} {k : Nat} (h : k < b.length) : bn b k = b[k] := by unfold bn; simp [h]
theorem boos_cell {w : World} {b off : Nat} {a : List Bool} (h : w.rangeAt b off (cellsE Eboo a)) {i : Nat} (hi : i < a.length) : w.cell? ⟨b, off + i, none⟩ = some (.bool (bn a i)) := by
  have := cell_at h hi (j := 0) (v := .bool a[i]) rfl
  rw [bn_at hi]
  simpa [Eboo] using this
theorem boos_ptr {w : World} {p : Option Addr} {n cp : Nat} {a : List Bool} (h : SlE Eboo w (.slice p n cp) a) (h0 : 0 < a.length) : ∃ b o, p = some ⟨b, o, none⟩ ∧ b < w.heap.size ∧ w.rangeAt b o (cellsE Eboo a) := by
  obtain ⟨b, o, c, e, _, q, x⟩ := slE_ne h h0
  injection e with e1 e2 e3
  exact ⟨b, o, e1, q, x⟩
/-- Bools are answered, in memory of the call's own. -/
def BoosIs (L : List Bool) (w : World) (e : Ending) (w' : World) : Prop := ∃ v, e = .returned v ∧ OwnE Eboo w' w.heap.size v L ∧ Below w.heap.size w w'
end Go.Proofs.Ytanoijcgkacnmaa
