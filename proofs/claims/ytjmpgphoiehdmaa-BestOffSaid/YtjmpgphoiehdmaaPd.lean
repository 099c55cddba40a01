/-
  An array of two ints: load, store, a variable, a literal, ==; a slice of such: append, a literal.
-/
import Derived.Test.YtjmpgphoiehdmaaPr
namespace Go.Proofs.Ytjmpgphoiehdmaa
open Go.RowKit

structure Pd where
  a : Int
  b : Int
  deriving DecidableEq
def pdL (q : Pd) : List Value := [.int .i64 q.a, .int .i64 q.b]
def pd (q : Pd) : Array Value := (pdL q).toArray
def zpd : Pd := ⟨0, 0⟩
theorem pd_list (q : Pd) : (pd q).toList = pdL q := rfl
theorem pd_len (q : Pd) : (pdL q).length = 2 := rfl
@[go_sem] theorem pd_size (q : Pd) : (pd q).size = 2 := by rw [← Array.length_toList]; exact pd_len q
theorem pd_one (q : Pd) : ∀ v ∈ pdL q, v.oneCell' = true := fun v hv => by
  simp only [pdL, List.mem_cons, List.mem_nil_iff, or_false] at hv
  rcases hv with rfl | rfl <;> rfl
@[go_sem] theorem okA_pd (q : Pd) : okA 2 (.agg (pd q)) = true := by
  show ((pd q).size == 2 && (pd q).all (·.oneCell')) = true
  rw [Bool.and_eq_true]
  exact ⟨rfl, Array.all_eq_true_iff_forall_mem.2 fun v hv => pd_one q v (by simpa [pd] using hv)⟩
@[go_sem ↓] theorem load_pd (ρ : Operand → Value) (dst : Option Tmp) (x : Operand) (ty : TypeId) (pos : String) (after : Array Edge) (guard : Option (Nat × Bool)) (w : World) :
    (execOp ρ { dst, op := .load 45 x, type := ty, pos, after, guard }).run Try.prog w = ldOut (ldA w (ρ x) 2) w (opRest Try.prog ρ { dst, op := .load 45 x, type := ty, pos, after, guard } w) :=
  run_load_out Try.isAgg45 Try.sizeOf45 ρ dst x ty pos after guard w
@[go_sem ↓] theorem store_pd (ρ : Operand → Value) (dst : Option Tmp) (x y : Operand) (ty : TypeId) (pos : String) (after : Array Edge) (guard : Option (Nat × Bool)) (w : World) :
    (execOp ρ { dst, op := .store 45 x y, type := ty, pos, after, guard }).run Try.prog w = stOut (wrA w (ρ x) 2 && okA 2 (ρ y)) (stA w (ρ x) (ρ y)) (opRest Try.prog ρ { dst, op := .store 45 x y, type := ty, pos, after, guard } w) :=
  run_store_out Try.sizeOf45 ρ dst x y ty pos after guard w
theorem zero_pd (w : World) : (zeroValue 45).run Try.prog w = .ok (.agg (pd zpd)) w := by kernel_rfl
@[go_sem ↓] theorem alloc_pd (ρ : Operand → Value) (dst : Option Tmp) (ty : TypeId) (pos : String) (after : Array Edge) (guard : Option (Nat × Bool)) (w : World) :
    (execOp ρ { dst, op := .alloc 45, type := ty, pos, after, guard }).run Try.prog w = .ok (.value (.pointer (some ⟨w.heap.size, 0, none⟩))) (w.alloc (.cells (pd zpd) 45)) := by
  unfold execOp
  simp only [Instr.alloc, Sem.run_bind, zero_pd, Result.andThen_ok]
  rfl
/-- A literal of both. -/
def bPdv (x y : Value) : Option Value :=
  match x, y with
  | .int .i64 a, .int .i64 b => some (.agg (pd ⟨a, b⟩))
  | _, _ => none
@[go_sem] theorem bPdv_int (a b : Int) : bPdv (.int .i64 a) (.int .i64 b) = some (.agg (pd ⟨a, b⟩)) := rfl
@[go_sem ↓] theorem build_pd (ρ : Operand → Value) (dst : Option Tmp) (x y : Operand) (ty : TypeId) (pos : String) (after : Array Edge) (guard : Option (Nat × Bool)) (w : World) :
    (execOp ρ { dst, op := .build 45 #[(0, x), (1, y)], type := ty, pos, after, guard }).run Try.prog w = vOutE (bPdv (ρ x) (ρ y)) w (opRest Try.prog ρ { dst, op := .build 45 #[(0, x), (1, y)], type := ty, pos, after, guard } w) := by
  cases h : bPdv (ρ x) (ρ y) with
  | none => rfl
  | some v =>
    unfold bPdv at h
    split at h
    · rename_i a b hx hy
      have hv := Option.some.inj h
      subst hv
      have hf : Instr.fill (fun i => some (i * 1, 1)) (pd zpd) [(0, .int .i64 a), (1, .int .i64 b)] = some (pd ⟨a, b⟩) := by
        rw [fill_cons _ (pd zpd) 0 (.int .i64 a) _ (0 * 1) 1 rfl rfl (by rw [pd_size]; omega)]
        rfl
      unfold execOp
      simp only [Instr.build, Sem.run_bind, zero_pd, Result.andThen_ok, run_underlying Try.underlying45, Try.sizeOf3, List.map_toArray, List.map_cons, List.map_nil, hx, hy, Value.cells, hf]
      rfl
    · cases h
def pat (q : Pd) : Nat → Int
  | 0 => q.a
  | _ => q.b
theorem pat_get (q : Pd) {i : Nat} (hi : i < 2) : (pd q)[i]? = some (.int .i64 (pat q i)) := by
  have : i = 0 ∨ i = 1 := by omega
  rcases this with rfl | rfl <;> rfl
theorem eqItems_pd (n : Nat) (a b : Pd) (w : World) : ∀ is : List Nat, (∀ i ∈ is, i < 2) →
    (Op.eqItems (n + 1) 3 1 (pd a) (pd b) is).run Try.prog w = .ok (is.all fun i => decide (pat a i = pat b i)) w
  | [], _ => by simp [Op.eqItems]
  | i :: is, h => by
    have hi := h i (by simp)
    have ih := eqItems_pd n a b w is (fun j hj => h j (by simp [hj]))
    simp only [Op.eqItems, Nat.mul_one, Sem.run_bind, partI _ _ _ (pat_get a hi), partI _ _ _ (pat_get b hi), Result.andThen_ok, eqInt]
    by_cases e : pat a i = pat b i
    · simp [e, ih]
    · simp [e]
theorem pd_iff (a b : Pd) : ((List.range 2).all fun i => decide (pat a i = pat b i)) = decide (a = b) := by
  rw [Bool.eq_iff_iff, List.all_eq_true, decide_eq_true_iff]
  constructor
  · intro h
    have h0 := of_decide_eq_true (h 0 (by decide))
    have h1 := of_decide_eq_true (h 1 (by decide))
    cases a; cases b
    simp only [pat] at h0 h1
    subst h0 h1
    rfl
  · rintro rfl i _
    simp
theorem eq_pdN (n : Nat) (a b : Pd) (w : World) : (Op.equalIn (n + 2) 45 (.agg (pd a)) (.agg (pd b))).run Try.prog w = .ok (decide (a = b)) w := by
  obtain ⟨i, hi⟩ : ∃ i, Try.prog.info? 3 = some i := Option.isSome_iff_exists.1 (by kernel_rfl)
  rw [run_equalIn_array w (n + 1) (pd a) (pd b) Try.underlying45 hi]
  rw [show Try.prog.cellsOf 3 = 1 by kernel_rfl, eqItems_pd n a b w _ (fun i h => List.mem_range.1 h), pd_iff]
@[go_sem ↓] theorem eq_pd (a b : Pd) (w : World) : (Op.equalIn 10000 45 (.agg (pd a)) (.agg (pd b))).run Try.prog w = .ok (decide (a = b)) w := eq_pdN 9998 a b w
def Epd : Lie Pd := ⟨45, 2, pdL, by decide, pd_len, pd_one⟩
theorem info_pd : (Try.prog.info? 45).map (fun i => (i.zero, i.size, i.bytes)) = some (some (.agg (pd zpd)), 2, 16) := by kernel_rfl
theorem Kpd : Known Try.prog Epd 32 := ⟨Try.underlying32, .agg (pd zpd), 16, info_pd, rfl, by decide⟩
@[go_sem ↓] theorem buildSlice_pd (ρ : Operand → Value) (dst : Option Tmp) (x : Operand) (ty : TypeId) (pos : String) (after : Array Edge) (guard : Option (Nat × Bool)) (w : World) (hx : okA 2 (ρ x) = true) :
    (execOp ρ { dst, op := .buildSlice 32 1 #[(0, x)], type := ty, pos, after, guard }).run Try.prog w = .ok (.value (.slice (some ⟨w.heap.size, 0, none⟩) 1 1)) (w.alloc (.cells (cellsA (ρ x)) 45)) := by
  obtain ⟨c, hc, hn⟩ : ∃ c, ρ x = .agg c ∧ c.size = 2 := by
    unfold okA at hx
    split at hx
    · rename_i c hc
      rw [Bool.and_eq_true, beq_iff_eq] at hx
      exact ⟨c, hc, hx.1⟩
    · cases hx
  have hp : (1 * 2 > 2 ^ 24) = False := by simp
  have h0 : (1 * 2 = 0) = False := by simp
  unfold execOp
  simp only [Instr.buildSlice, Sem.run_bind, run_underlying Try.underlying32, Result.andThen_ok, Try.sizeOf45, hp, h0, if_false, zero_pd, Value.cells]
  simp only [List.map_toArray, List.map_cons, List.map_nil, hc, Instr.fill, Value.cells, hn, Nat.zero_mul]
  simp [cellsA]
  rw [foldl_zip _ c (by simp [hn])]
  rfl
/-- An element whole, and one of its four. -/
theorem pd_ld {w : World} {b off : Nat} {l : List Pd} (h : w.rangeAt b off (cellsE Epd l)) {i : Nat} {q : Pd} (hq : l[i]? = some q) : ldA w (.pointer (some ⟨b, off + i * 2, none⟩)) 2 = some (pd q) := by
  obtain ⟨hi, e⟩ := List.getElem?_eq_some_iff.1 hq
  have := ldA_at h hi
  rw [e] at this
  exact this
theorem pd_cell {w : World} {b off : Nat} {l : List Pd} (h : w.rangeAt b off (cellsE Epd l)) {i j : Nat} {q : Pd} (hq : l[i]? = some q) (hj : j < 2) : w.cell? ⟨b, off + i * 2 + j, none⟩ = some (.int .i64 (pat q j)) := by
  obtain ⟨hi, e⟩ := List.getElem?_eq_some_iff.1 hq
  have h1 := pat_get q hj
  refine cell_at h hi (j := j) ?_
  rw [e]
  show (pdL q)[j]? = _
  rw [← pd_list, Array.getElem?_toList]
  exact h1
end Go.Proofs.Ytjmpgphoiehdmaa
