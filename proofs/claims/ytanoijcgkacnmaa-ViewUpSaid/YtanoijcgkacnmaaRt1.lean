/-
  A root's literal with one byte; a root of one byte; three nodes in a row.
-/
import Derived.Test.YtanoijcgkacnmaaGN
import Derived.Test.YtanoijcgkacnmaaRl
import Derived.Test.YtanoijcgkacnmaaGV
namespace Go.Proofs.Ytanoijcgkacnmaa
open Go.RowKit

theorem okA_agg {x : Value} {n : Nat} (hx : okA n x = true) : ∃ c, x = .agg c ∧ c.size = n := by
  unfold okA at hx
  split at hx
  · rename_i c
    rw [Bool.and_eq_true, beq_iff_eq] at hx
    exact ⟨c, rfl, hx.1⟩
  · cases hx
theorem put3 {z a b c : Array Value} (hz : z.size = 105) (ha : a.size = 35) (hb : b.size = 35) (hc : c.size = 35) : putSeg (putSeg (putSeg z 0 a) 35 b) 70 c = a ++ b ++ c := by
  have s1 : (putSeg z 0 a).size = 105 := by rw [putSeg_size (by omega), hz]
  have s2 : (putSeg (putSeg z 0 a) 35 b).size = 105 := by rw [putSeg_size (by omega), s1]
  apply Array.ext_getElem?
  intro j
  rw [putSeg_get (by omega), putSeg_get (by omega), putSeg_get (by omega), Array.getElem?_append, Array.getElem?_append, Array.size_append, ha, hb, hc]
  by_cases h0 : j < 35
  · rw [if_neg (by omega), if_neg (by omega), if_pos (by omega), if_pos (by omega), if_pos h0, Nat.sub_zero]
  · by_cases h1 : j < 70
    · rw [if_neg (by omega), if_pos (by omega), if_pos (by omega), if_neg h0]
    · by_cases h2 : j < 105
      · rw [if_pos (by omega), if_neg (by omega)]
      · rw [if_neg (by omega), if_neg (by omega), if_neg (by omega), if_neg (by omega), Array.getElem?_eq_none (by omega), Array.getElem?_eq_none (by omega)]
@[go_sem ↓] theorem buildSlice_ne3 (ρ : Operand → Value) (dst : Option Tmp) (x y z : Operand) (ty : TypeId) (pos : String) (after : Array Edge) (guard : Option (Nat × Bool)) (w : World) (hx : okA 35 (ρ x) = true) (hy : okA 35 (ρ y) = true) (hz : okA 35 (ρ z) = true) :
    (execOp ρ { dst, op := .buildSlice 22 3 #[(0, x), (1, y), (2, z)], type := ty, pos, after, guard }).run Try.prog w = .ok (.value (.slice (some ⟨w.heap.size, 0, none⟩) 3 3)) (w.alloc (.cells (cellsA (ρ x) ++ cellsA (ρ y) ++ cellsA (ρ z)) 43)) := by
  obtain ⟨a, ha, na⟩ := okA_agg hx
  obtain ⟨b, hb, nb⟩ := okA_agg hy
  obtain ⟨c, hc, nc⟩ := okA_agg hz
  have hp : (3 * 35 > 2 ^ 24) = False := by simp
  have h0 : (3 * 35 = 0) = False := by simp
  unfold execOp
  simp only [Instr.buildSlice, Sem.run_bind, run_underlying Try.underlying22, Result.andThen_ok, Try.sizeOf43, hp, h0, if_false, zero_ne, Value.cells]
  simp only [List.map_toArray, List.map_cons, List.map_nil, ha, hb, hc]
  simp only [Sem.run_pure, Result.andThen_ok]
  generalize hz : (Array.range (3 * 35)).map (fun x => (ne zne)[x % (ne zne).size]!) = z
  have hzs : z.size = 105 := by rw [← hz]; simp
  have hf : Instr.fill (fun i => some (i * 35, 35)) z [(0, .agg a), (1, .agg b), (2, .agg c)] = some (a ++ b ++ c) := by
    rw [fill_cons _ z 0 (.agg a) _ (0 * 35) 35 rfl (by simp [Value.cells, na]) (by omega)]
    have s1 : (putSeg z (0 * 35) a).size = 105 := by rw [putSeg_size (by omega), hzs]
    rw [fill_cons _ _ 1 (.agg b) _ (1 * 35) 35 rfl (by simp [Value.cells, nb]) (by simp only [Value.cells]; omega)]
    have s2 : (putSeg (putSeg z (0 * 35) a) (1 * 35) b).size = 105 := by rw [putSeg_size (by omega), s1]
    rw [fill_cons _ _ 2 (.agg c) _ (2 * 35) 35 rfl (by simp [Value.cells, nc]) (by simp only [Value.cells]; omega)]
    simp only [Value.cells]
    rw [← put3 hzs na nb nc]
    rfl
  simp only [hf]
  simp [cellsA]
  rfl
end Go.Proofs.Ytanoijcgkacnmaa
