/-
  Package ring: isRoom, May, New, queueOf, walked.
-/
import Derived.Test.YtmcnpefnebehfaaRingN
namespace Go.Proofs.Ytmcnpefnebehfaa
open Go.RowKit

def roomB (n : Int) : Bool := decide (0 ≤ n ∧ n ≤ 8)
set_option maxRecDepth 100000 in
set_option maxHeartbeats 1000000 in
theorem isRoom_any (n : Int) (w : World) :
    Calls Try.prog 28 #[.int .i64 n] w fun e w' => e = .returned (.bool (roomB n)) ∧ w = w' := by
  by_cases h0 : 0 ≤ n
  · by_cases h8 : n ≤ 8
    · have e : roomB n = true := by simp [roomB, h0, h8]
      rw [e]
      go_enter Try.func28, Try.ntmps28
      go_wp2_with fail
      go_ret
      exact ⟨rfl, rfl⟩
    · have e : roomB n = false := by simp [roomB, h0, h8]
      rw [e]
      have h8' : 8 < n := by omega
      go_enter Try.func28, Try.ntmps28
      go_wp2_with fail
      go_ret
      exact ⟨rfl, rfl⟩
  · have e : roomB n = false := by simp [roomB, h0]
    rw [e]
    have h0' : n < 0 := by omega
    clear h0
    go_enter Try.func28, Try.ntmps28
    go_wp2_with fail
    go_ret
    exact ⟨rfl, rfl⟩

set_option maxRecDepth 100000 in
set_option maxHeartbeats 1000000 in
theorem may_any (c : Int) (p : Option Addr) (cap : Nat) (l : List Int) (w : World) :
    Calls Try.prog 21 #[.agg #[.int .i64 c, .slice p l.length cap]] w fun e w' => e = .returned (.bool (mayB c l)) ∧ Below w.heap.size w w' := by
  have HB : Hid (Below w.heap.size w (w.alloc (.cells #[.int .i64 c, .slice p l.length cap] 24))) := (Below.refl w.heap.size w).alloc (Nat.le_refl _) _
  cases hr : roomB c with
  | true =>
    have e : mayB c l = decide ((l.length : Int) ≤ c) := by
      unfold roomB at hr
      rw [decide_eq_true_iff] at hr
      simp [mayB, hr.1, hr.2]
    rw [e]
    have c1 := fun W => isRoom_any c W
    rw [hr] at c1
    have HC := Lib.hid c1
    clear c1 hr e
    go_enter Try.func21, Try.ntmps21
    go_wp2_with fail
    refine (HC.out _).mono ?_
    rintro e w1 ⟨rfl, rfl⟩
    go_wp2_with fail
    go_ret
    exact ⟨rfl, HB.out⟩
  | false =>
    have e : mayB c l = false := by
      unfold roomB at hr
      rw [decide_eq_false_iff_not] at hr
      unfold mayB
      rw [decide_eq_false_iff_not]
      exact fun h => hr ⟨h.1, h.2.1⟩
    rw [e]
    have c1 := fun W => isRoom_any c W
    rw [hr] at c1
    have HC := Lib.hid c1
    clear c1 hr e
    go_enter Try.func21, Try.ntmps21
    go_wp2_with fail
    refine (HC.out _).mono ?_
    rintro e w1 ⟨rfl, rfl⟩
    go_wp2_with fail
    go_ret
    exact ⟨rfl, HB.out⟩

/-! ### queues by value -/
def zq : Array Value := qc [0, 0, 0, 0, 0, 0, 0, 0] 0 0 0
theorem zq_size : zq.size = 11 := qc_size rfl _ _ _
theorem zero_queue (w : World) : (zeroValue 44).run Try.prog w = .ok (.agg zq) w := by
  unfold zq
  rw [Try.zeroValue44 w]
  unfold qc
  rfl
@[go_sem ↓] theorem load_queue (ρ : Operand → Value) (dst : Option Tmp) (x : Operand) (ty : TypeId) (pos : String) (after : Array Edge) (guard : Option (Nat × Bool)) (w : World) :
    (execOp ρ { dst, op := .load 44 x, type := ty, pos, after, guard }).run Try.prog w = ldOut (ldA w (ρ x) 11) w (opRest Try.prog ρ { dst, op := .load 44 x, type := ty, pos, after, guard } w) :=
  run_load_out Try.isAgg44 Try.sizeOf44 ρ dst x ty pos after guard w
@[go_sem ↓] theorem store_queue (ρ : Operand → Value) (dst : Option Tmp) (x y : Operand) (ty : TypeId) (pos : String) (after : Array Edge) (guard : Option (Nat × Bool)) (w : World) :
    (execOp ρ { dst, op := .store 44 x y, type := ty, pos, after, guard }).run Try.prog w = stOut (wrA w (ρ x) 11 && okA 11 (ρ y)) (stA w (ρ x) (ρ y)) (opRest Try.prog ρ { dst, op := .store 44 x y, type := ty, pos, after, guard } w) :=
  run_store_out Try.sizeOf44 ρ dst x y ty pos after guard w
@[go_sem ↓] theorem alloc_queue (ρ : Operand → Value) (dst : Option Tmp) (ty : TypeId) (pos : String) (after : Array Edge) (guard : Option (Nat × Bool)) (w : World) :
    (execOp ρ { dst, op := .alloc 44, type := ty, pos, after, guard }).run Try.prog w = .ok (.value (.pointer (some ⟨w.heap.size, 0, none⟩))) (w.alloc (.cells zq 44)) := by
  unfold execOp
  simp only [Instr.alloc, Sem.run_bind, zero_queue, Result.andThen_ok]
  rfl
@[go_sem ↓] theorem build_queue0 (ρ : Operand → Value) (dst : Option Tmp) (ty : TypeId) (pos : String) (after : Array Edge) (guard : Option (Nat × Bool)) (w : World) :
    (execOp ρ { dst, op := .build 44 #[], type := ty, pos, after, guard }).run Try.prog w = .ok (.value (.agg zq)) w := by
  unfold execOp
  simp only [Instr.build, Sem.run_bind, zero_queue, Result.andThen_ok, run_underlying Try.underlying44]
  simp [Instr.fill, Value.cells]
theorem qc_ones {pl : List Int} {f n c : Nat} (h : pl.length = 8) : okA 11 (.agg (qc pl f n c)) = true := by
  show ((qc pl f n c).size == 11 && (qc pl f n c).all (·.oneCell')) = true
  rw [Bool.and_eq_true]
  refine ⟨by rw [qc_size h]; rfl, Array.all_eq_true_iff_forall_mem.2 fun v hv => ?_⟩
  unfold qc at hv
  simp at hv
  rcases hv with hv | rfl | rfl | rfl
  · exact iv_one _ _ hv
  all_goals rfl
theorem okA_zq : okA 11 (.agg zq) = true := qc_ones rfl
attribute [irreducible] zq
attribute [go_sem] zq_size okA_zq

section
variable {P : Program}
theorem results_aggI2 {T : TypeId} {n : Nat} (hA : ∀ w, (isAgg T).run P w = .ok true w) (hS : ∀ w, (Go.sizeOf T).run P w = .ok n w) (fn : Func) (d e : Nat) (h : fn.results = #[.cell d T, .tmp e]) (tmps : Array Value) (w : World) (b : Nat) (c : Array Value) (v : Value) (hp : tmps.getD d undef = .pointer (some ⟨b, 0, none⟩)) (hv : tmps.getD e undef = v) (hl : ldA w (.pointer (some ⟨b, 0, none⟩)) n = some c) :
    (results fn tmps).run P w = .ok (.tuple #[.agg c, v]) w := by
  have hp' : tmps[d]?.getD undef = .pointer (some ⟨b, 0, none⟩) := by simpa using hp
  have hv' : tmps[e]?.getD undef = v := by simpa using hv
  simp [results, h, hp', hv', asAddr, run_loadVar_agg hA hS w b 0 c hl]
theorem results_aggI3 {T : TypeId} {n : Nat} (hA : ∀ w, (isAgg T).run P w = .ok true w) (hS : ∀ w, (Go.sizeOf T).run P w = .ok n w) (fn : Func) (d e f : Nat) (h : fn.results = #[.cell d T, .tmp e, .tmp f]) (tmps : Array Value) (w : World) (b : Nat) (c : Array Value) (v u : Value) (hp : tmps.getD d undef = .pointer (some ⟨b, 0, none⟩)) (hv : tmps.getD e undef = v) (hu : tmps.getD f undef = u) (hl : ldA w (.pointer (some ⟨b, 0, none⟩)) n = some c) :
    (results fn tmps).run P w = .ok (.tuple #[.agg c, v, u]) w := by
  have hp' : tmps[d]?.getD undef = .pointer (some ⟨b, 0, none⟩) := by simpa using hp
  have hv' : tmps[e]?.getD undef = v := by simpa using hv
  have hu' : tmps[f]?.getD undef = u := by simpa using hu
  simp [results, h, hp', hv', hu', asAddr, run_loadVar_agg hA hS w b 0 c hl]
theorem results_aggI1 {T : TypeId} {n : Nat} (hA : ∀ w, (isAgg T).run P w = .ok true w) (hS : ∀ w, (Go.sizeOf T).run P w = .ok n w) (fn : Func) (d : Nat) (h : fn.results = #[.cell d T]) (tmps : Array Value) (w : World) (b : Nat) (c : Array Value) (hp : tmps.getD d undef = .pointer (some ⟨b, 0, none⟩)) (hl : ldA w (.pointer (some ⟨b, 0, none⟩)) n = some c) :
    (results fn tmps).run P w = .ok (.agg c) w := by
  have hp' : tmps[d]?.getD undef = .pointer (some ⟨b, 0, none⟩) := by simpa using hp
  simp [results, h, hp', asAddr, run_loadVar_agg hA hS w b 0 c hl]
end

/-- What queueOf answers. -/
def QofIs (l : List Int) (c : Nat) (w : World) (e : Ending) (w' : World) : Prop := ∃ pl : List Int, e = .returned (.tuple #[.agg (qc pl 0 l.length c), .bool true]) ∧ pl.length = 8 ∧ (∀ i, i < l.length → it pl i = it l i) ∧ Below w.heap.size w w'

set_option maxRecDepth 100000 in
set_option maxHeartbeats 1000000 in
theorem queueOf_no (c : Int) (p : Option Addr) (cap : Nat) (l : List Int) (w : World) (hm : mayB c l = false) :
    Calls Try.prog 22 #[.agg #[.int .i64 c, .slice p l.length cap]] w fun e w' => e = .returned (.tuple #[.agg zq, .bool false]) ∧ Below w.heap.size w w' := by
  have c1 := fun W => may_any c p cap l W
  rw [hm] at c1
  have HC := Lib.hid c1
  clear c1 hm
  have HB : Hid (Below w.heap.size w ((w.alloc (.cells #[.int .i64 c, .slice p l.length cap] 24)).alloc (.cells zq 44))) := ((Below.refl w.heap.size w).alloc (Nat.le_refl _) _).alloc (by simp) _
  have L0 : Hid (((w.alloc (.cells #[.int .i64 c, .slice p l.length cap] 24)).alloc (.cells zq 44)).heap[w.heap.size + 1]? = some (.cells zq 44 (0, 0))) := heap_alloc2_new w _ _
  go_enter Try.func22, Try.ntmps22
  go_wp2_with fail
  refine (HC.out _).mono ?_
  rintro e w1 ⟨rfl, g1⟩
  have hb1 : w1.heap[w.heap.size + 1]? = some (.cells zq 44 (0, 0)) := (g1.block _ (by simp)).trans L0.out
  have hw1 := wrA_block (n := 11) hb1 zq_size
  have G1 := Lib.hid (belowT HB.out g1)
  have HB1 := Lib.hid hb1
  clear g1 hb1
  go_wp2_with fail
  have B : Below w.heap.size w (stA w1 (.pointer (some ⟨w.heap.size + 1, 0, none⟩)) (.agg zq)) := below_stA G1.out (by omega)
  exact bodyPost_ret (results_aggI2 Try.isAgg44 Try.sizeOf44 _ 2 3 rfl _ _ _ zq _ rfl rfl (ldA_stA_same hw1 zq_size)) rfl ⟨rfl, B⟩
end Go.Proofs.Ytmcnpefnebehfaa
