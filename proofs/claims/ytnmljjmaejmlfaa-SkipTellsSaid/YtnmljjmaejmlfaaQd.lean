/-
  An array of four ints: load, store, a variable, a literal, ==; a slice of such: append, a literal.
-/
import Derived.Test.YtnmljjmaejmlfaaPr
import Derived.Test.YtnmljjmaejmlfaaSkipZ
namespace Go.Proofs.Ytnmljjmaejmlfaa
open Go.RowKit

def qdL (q : Quad) : List Value := [.int .i64 q.a, .int .i64 q.b, .int .i64 q.c, .int .i64 q.d]
def qd (q : Quad) : Array Value := (qdL q).toArray
def zqd : Quad := ⟨0, 0, 0, 0⟩
theorem qd_list (q : Quad) : (qd q).toList = qdL q := rfl
theorem qd_len (q : Quad) : (qdL q).length = 4 := rfl
@[go_sem] theorem qd_size (q : Quad) : (qd q).size = 4 := by rw [← Array.length_toList]; exact qd_len q
theorem qd_one (q : Quad) : ∀ v ∈ qdL q, v.oneCell' = true := fun v hv => by
  simp only [qdL, List.mem_cons, List.mem_nil_iff, or_false] at hv
  rcases hv with rfl | rfl | rfl | rfl <;> rfl
@[go_sem] theorem okA_qd (q : Quad) : okA 4 (.agg (qd q)) = true := by
  show ((qd q).size == 4 && (qd q).all (·.oneCell')) = true
  rw [Bool.and_eq_true]
  exact ⟨rfl, Array.all_eq_true_iff_forall_mem.2 fun v hv => qd_one q v (by simpa [qd] using hv)⟩
@[go_sem ↓] theorem load_qd (ρ : Operand → Value) (dst : Option Tmp) (x : Operand) (ty : TypeId) (pos : String) (after : Array Edge) (guard : Option (Nat × Bool)) (w : World) :
    (execOp ρ { dst, op := .load 42 x, type := ty, pos, after, guard }).run Try.prog w = ldOut (ldA w (ρ x) 4) w (opRest Try.prog ρ { dst, op := .load 42 x, type := ty, pos, after, guard } w) :=
  run_load_out Try.isAgg42 Try.sizeOf42 ρ dst x ty pos after guard w
@[go_sem ↓] theorem store_qd (ρ : Operand → Value) (dst : Option Tmp) (x y : Operand) (ty : TypeId) (pos : String) (after : Array Edge) (guard : Option (Nat × Bool)) (w : World) :
    (execOp ρ { dst, op := .store 42 x y, type := ty, pos, after, guard }).run Try.prog w = stOut (wrA w (ρ x) 4 && okA 4 (ρ y)) (stA w (ρ x) (ρ y)) (opRest Try.prog ρ { dst, op := .store 42 x y, type := ty, pos, after, guard } w) :=
  run_store_out Try.sizeOf42 ρ dst x y ty pos after guard w
theorem zero_qd (w : World) : (zeroValue 42).run Try.prog w = .ok (.agg (qd zqd)) w := by kernel_rfl
@[go_sem ↓] theorem alloc_qd (ρ : Operand → Value) (dst : Option Tmp) (ty : TypeId) (pos : String) (after : Array Edge) (guard : Option (Nat × Bool)) (w : World) :
    (execOp ρ { dst, op := .alloc 42, type := ty, pos, after, guard }).run Try.prog w = .ok (.value (.pointer (some ⟨w.heap.size, 0, none⟩))) (w.alloc (.cells (qd zqd) 42)) := by
  unfold execOp
  simp only [Instr.alloc, Sem.run_bind, zero_qd, Result.andThen_ok]
  rfl
/-- A literal of all four. -/
def bQd (x y z u : Value) : Option Value :=
  match x, y, z, u with
  | .int .i64 a, .int .i64 b, .int .i64 c, .int .i64 d => some (.agg (qd ⟨a, b, c, d⟩))
  | _, _, _, _ => none
@[go_sem] theorem bQd_int (a b c d : Int) : bQd (.int .i64 a) (.int .i64 b) (.int .i64 c) (.int .i64 d) = some (.agg (qd ⟨a, b, c, d⟩)) := rfl
@[go_sem ↓] theorem build_qd (ρ : Operand → Value) (dst : Option Tmp) (x y z u : Operand) (ty : TypeId) (pos : String) (after : Array Edge) (guard : Option (Nat × Bool)) (w : World) :
    (execOp ρ { dst, op := .build 42 #[(0, x), (1, y), (2, z), (3, u)], type := ty, pos, after, guard }).run Try.prog w = vOutE (bQd (ρ x) (ρ y) (ρ z) (ρ u)) w (opRest Try.prog ρ { dst, op := .build 42 #[(0, x), (1, y), (2, z), (3, u)], type := ty, pos, after, guard } w) := by
  cases h : bQd (ρ x) (ρ y) (ρ z) (ρ u) with
  | none => rfl
  | some v =>
    unfold bQd at h
    split at h
    · rename_i a b c d hx hy hz hu
      have hv := Option.some.inj h
      subst hv
      have hf : Instr.fill (fun i => some (i * 1, 1)) (qd zqd) [(0, .int .i64 a), (1, .int .i64 b), (2, .int .i64 c), (3, .int .i64 d)] = some (qd ⟨a, b, c, d⟩) := by
        rw [fill_cons _ (qd zqd) 0 (.int .i64 a) _ (0 * 1) 1 rfl rfl (by rw [qd_size]; omega)]
        rfl
      unfold execOp
      simp only [Instr.build, Sem.run_bind, zero_qd, Result.andThen_ok, run_underlying Try.underlying42, Try.sizeOf3, List.map_toArray, List.map_cons, List.map_nil, hx, hy, hz, hu, Value.cells, hf]
      rfl
    · cases h
def qat (q : Quad) : Nat → Int
  | 0 => q.a
  | 1 => q.b
  | 2 => q.c
  | _ => q.d
theorem qat_get (q : Quad) {i : Nat} (hi : i < 4) : (qd q)[i]? = some (.int .i64 (qat q i)) := by
  have : i = 0 ∨ i = 1 ∨ i = 2 ∨ i = 3 := by omega
  rcases this with rfl | rfl | rfl | rfl <;> rfl
theorem eqItems_qd (n : Nat) (a b : Quad) (w : World) : ∀ is : List Nat, (∀ i ∈ is, i < 4) →
    (Op.eqItems (n + 1) 3 1 (qd a) (qd b) is).run Try.prog w = .ok (is.all fun i => decide (qat a i = qat b i)) w
  | [], _ => by simp [Op.eqItems]
  | i :: is, h => by
    have hi := h i (by simp)
    have ih := eqItems_qd n a b w is (fun j hj => h j (by simp [hj]))
    simp only [Op.eqItems, Nat.mul_one, Sem.run_bind, partI _ _ _ (qat_get a hi), partI _ _ _ (qat_get b hi), Result.andThen_ok, eqInt]
    by_cases e : qat a i = qat b i
    · simp [e, ih]
    · simp [e]
theorem quad_iff (a b : Quad) : ((List.range 4).all fun i => decide (qat a i = qat b i)) = decide (a = b) := by
  rw [Bool.eq_iff_iff, List.all_eq_true, decide_eq_true_iff]
  constructor
  · intro h
    have h0 := of_decide_eq_true (h 0 (by decide))
    have h1 := of_decide_eq_true (h 1 (by decide))
    have h2 := of_decide_eq_true (h 2 (by decide))
    have h3 := of_decide_eq_true (h 3 (by decide))
    cases a; cases b
    simp only [qat] at h0 h1 h2 h3
    subst h0 h1 h2 h3
    rfl
  · rintro rfl i _
    simp
theorem eq_qdN (n : Nat) (a b : Quad) (w : World) : (Op.equalIn (n + 2) 42 (.agg (qd a)) (.agg (qd b))).run Try.prog w = .ok (decide (a = b)) w := by
  obtain ⟨i, hi⟩ : ∃ i, Try.prog.info? 3 = some i := Option.isSome_iff_exists.1 (by kernel_rfl)
  rw [run_equalIn_array w (n + 1) (qd a) (qd b) Try.underlying42 hi]
  rw [show Try.prog.cellsOf 3 = 1 by kernel_rfl, eqItems_qd n a b w _ (fun i h => List.mem_range.1 h), quad_iff]
@[go_sem ↓] theorem eq_qd (a b : Quad) (w : World) : (Op.equalIn 10000 42 (.agg (qd a)) (.agg (qd b))).run Try.prog w = .ok (decide (a = b)) w := eq_qdN 9998 a b w
def Eqd : Lie Quad := ⟨42, 4, qdL, by decide, qd_len, qd_one⟩
theorem info_qd : (Try.prog.info? 42).map (fun i => (i.zero, i.size, i.bytes)) = some (some (.agg (qd zqd)), 4, 32) := by kernel_rfl
theorem Kqd : Known Try.prog Eqd 28 := ⟨Try.underlying28, .agg (qd zqd), 32, info_qd, rfl, by decide⟩
@[go_sem ↓] theorem buildSlice_qd (ρ : Operand → Value) (dst : Option Tmp) (x : Operand) (ty : TypeId) (pos : String) (after : Array Edge) (guard : Option (Nat × Bool)) (w : World) (hx : okA 4 (ρ x) = true) :
    (execOp ρ { dst, op := .buildSlice 28 1 #[(0, x)], type := ty, pos, after, guard }).run Try.prog w = .ok (.value (.slice (some ⟨w.heap.size, 0, none⟩) 1 1)) (w.alloc (.cells (cellsA (ρ x)) 42)) := by
  obtain ⟨c, hc, hn⟩ : ∃ c, ρ x = .agg c ∧ c.size = 4 := by
    unfold okA at hx
    split at hx
    · rename_i c hc
      rw [Bool.and_eq_true, beq_iff_eq] at hx
      exact ⟨c, hc, hx.1⟩
    · cases hx
  have hp : (1 * 4 > 2 ^ 24) = False := by simp
  have h0 : (1 * 4 = 0) = False := by simp
  unfold execOp
  simp only [Instr.buildSlice, Sem.run_bind, run_underlying Try.underlying28, Result.andThen_ok, Try.sizeOf42, hp, h0, if_false, zero_qd, Value.cells]
  simp only [List.map_toArray, List.map_cons, List.map_nil, hc, Instr.fill, Value.cells, hn, Nat.zero_mul]
  simp [cellsA]
  rw [foldl_zip _ c (by simp [hn])]
  rfl
/-- An element whole, and one of its four. -/
theorem qd_ld {w : World} {b off : Nat} {l : List Quad} (h : w.rangeAt b off (cellsE Eqd l)) {i : Nat} {q : Quad} (hq : l[i]? = some q) : ldA w (.pointer (some ⟨b, off + i * 4, none⟩)) 4 = some (qd q) := by
  obtain ⟨hi, e⟩ := List.getElem?_eq_some_iff.1 hq
  have := ldA_at h hi
  rw [e] at this
  exact this
theorem qd_cell {w : World} {b off : Nat} {l : List Quad} (h : w.rangeAt b off (cellsE Eqd l)) {i j : Nat} {q : Quad} (hq : l[i]? = some q) (hj : j < 4) : w.cell? ⟨b, off + i * 4 + j, none⟩ = some (.int .i64 (qat q j)) := by
  obtain ⟨hi, e⟩ := List.getElem?_eq_some_iff.1 hq
  have h1 := qat_get q hj
  refine cell_at h hi (j := j) ?_
  rw [e]
  show (qdL q)[j]? = _
  rw [← qd_list, Array.getElem?_toList]
  exact h1
end Go.Proofs.Ytnmljjmaejmlfaa
