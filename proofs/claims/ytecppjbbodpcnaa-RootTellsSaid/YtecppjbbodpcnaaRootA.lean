/-
  Package root: which of two roots is less, and how two stand, in a translation of this seat.
-/
import Derived.Test.YtecppjbbodpcnaaRoot
import Derived.Test.YtecppjbbodpcnaaAgg
import Derived.Test.YtecppjbbodpcnaaRows
import Derived.Outline
import Derived.Deep.QuietTactic
import Derived.BigQuiet
import Derived.Lib.Hide
import Derived.ChangeKeysEq
namespace Go.Proofs.Ytecppjbbodpcnaa
open Go.RowKit

/-- The two boxed roots, and draws behind them. -/
def two (w : World) (a b : Rt) : World := (w.alloc (.cells (rc a) 23)).alloc (.cells (rc b) 23)

theorem two_a (w : World) (a b : Rt) (n k : Nat) (hk : k < 32) : (((w.alloc (.cells (rc a) 23)).alloc (.cells (rc b) 23)).drewN n).cell? ⟨w.heap.size, k, none⟩ = some (.int .u8 (at8 a k)) := by
  show ((w.alloc (.cells (rc a) 23)).alloc (.cells (rc b) 23)).cell? ⟨w.heap.size, k, none⟩ = _
  rw [cell_of_row _ _ k _ _ _ (heap_alloc2_old w _ _), rc_get a k hk]
theorem two_b (w : World) (a b : Rt) (n k : Nat) (hk : k < 32) : (((w.alloc (.cells (rc a) 23)).alloc (.cells (rc b) 23)).drewN n).cell? ⟨w.heap.size + 1, k, none⟩ = some (.int .u8 (at8 b k)) := by
  show ((w.alloc (.cells (rc a) 23)).alloc (.cells (rc b) 23)).cell? ⟨w.heap.size + 1, k, none⟩ = _
  rw [cell_of_row _ _ k _ _ _ (heap_alloc2_new w _ _), rc_get b k hk]

/-- The order's answer, and the world's. -/
def LessIs (a b : Rt) (w : World) (e : Ending) (w' : World) : Prop := e = .returned (.bool (lessR a b)) ∧ ∃ n os, w' = Sort.grow (w.drewN n) os
theorem lessIs_mk {a b : Rt} {w w' : World} {x : Bool} (n : Nat) (h : lessR a b = x) (hw : w' = ((w.alloc (.cells (rc a) 23)).alloc (.cells (rc b) 23)).drewN n) : LessIs a b w (.returned (.bool x)) w' :=
  ⟨by rw [h], n, #[.cells (rc a) 23, .cells (rc b) 23], by
    rw [hw, Sort.alloc_eq_grow, Sort.alloc_eq_grow, Sort.grow_grow]; rfl⟩

set_option maxHeartbeats 400000 in
theorem less_any (a b : Rt) (w : World) :
    Calls Try.prog 16 #[.agg (rc a), .agg (rc b)] w (LessIs a b w) := by
  have hsa := rc_size a
  have hsb := rc_size b
  go_enter Try.func16, Try.ntmps16
  go_wp2
  go_loopw [6] (fun i wr => ∃ k n : Nat, k ≤ 32 ∧ i = .int .i64 k ∧ lessR a b = lessFrom a b k ∧ wr = ((w.alloc (.cells (rc a) 23)).alloc (.cells (rc b) 23)).drewN n) (fun i _ => 32 - (intOf i).toNat)
  case atStart => exact ⟨0, 0, by omega, rfl, rfl, rfl⟩
  case round =>
    obtain ⟨k, n, hk, rfl, hl, rfl⟩ := hrel
    have HL := Lib.hid hl; clear hl
    by_cases hlt : k < 32
    · have i0 : (0 : Int) ≤ (k : Int) := by omega
      have i1 : (k : Int) < 32 := by omega
      by_cases hs : at8 a k = at8 b k
      · have e : (at8 a k != at8 b k) = false := by simp [hs]
        have HE := Lib.hid (lessFrom_same a b k hlt hs); clear hs
        go_wp2
        go_quiet (fail)
        go_wp2
        go_roundw
        case rel => exact ⟨k + 1, _, by omega, by go_num, by rw [HL.out, HE.out], rfl⟩
        case measure => simp [intOf]; omega
      · have e : (at8 a k != at8 b k) = true := by simp [hs]
        have HE := Lib.hid (lessFrom_other a b k hlt hs); clear hs
        go_wp2
        go_quiet (fail)
        go_wp2
        go_quiet (fail)
        go_wp2
        go_ret
        exact lessIs_mk _ (by rw [HL.out, HE.out]) (by rw [World.drewN_drewN, World.drewN_drewN])
    · obtain rfl : k = 32 := by omega
      go_wp2
      go_ret
      exact lessIs_mk _ (by rw [HL.out, lessFrom_end]) rfl
/-- Are two roots the same? -/
def eqB (a b : Rt) : Bool := decide (a = b)
theorem at8_ext {a b : Rt} (h : ∀ i, i < 32 → at8 a i = at8 b i) : a = b := by
  apply Vector.toList_inj.1
  apply List.ext_getElem (by simp)
  intro i h1 h2
  have := h i (by simpa using h1)
  unfold at8 at this
  rw [getD_in _ h1, getD_in _ h2] at this
  exact UInt8.toNat_inj.1 (by omega)
theorem eqB_range (a b : Rt) : ((List.range 32).all fun i => at8 a i == at8 b i) = eqB a b := by
  unfold eqB
  rw [Bool.eq_iff_iff, List.all_eq_true, decide_eq_true_iff]
  constructor
  · intro h
    exact at8_ext fun i hi => by simpa using h i (List.mem_range.2 hi)
  · rintro rfl i _
    simp
theorem part_rc (a : Rt) (i : Nat) (hi : i < 32) (w : World) : (part 5 (rc a) i).run Try.prog w = .ok (.int .u8 (at8 a i)) w := by
  have h := rc_get a i hi
  have a5 := Try.isAgg5
  unfold part
  go_simp

theorem eqItems_rc (a b : Rt) (w : World) : ∀ is : List Nat, (∀ i ∈ is, i < 32) →
    (Op.eqItems 9999 5 1 (rc a) (rc b) is).run Try.prog w = .ok (is.all fun i => at8 a i == at8 b i) w
  | [], _ => by simp [Op.eqItems]
  | i :: is, h => by
    have hi := h i (by simp)
    have ih := eqItems_rc a b w is (fun j hj => h j (by simp [hj]))
    have u5 := Try.underlying5
    have e1 : (Op.equalIn 9999 5 (.int .u8 (at8 a i)) (.int .u8 (at8 b i))).run Try.prog w = .ok (at8 a i == at8 b i) w := by
      rw [show (9999 : Nat) = 9998 + 1 from rfl, Op.equalIn]
      go_simp
    simp only [Op.eqItems, Nat.mul_one, Sem.run_bind, part_rc a i hi, part_rc b i hi, Result.andThen_ok, e1]
    by_cases e : at8 a i = at8 b i
    · simp [e, ih]
    · simp [e]

@[go_sem] theorem eqRoot (a b : Rt) (w : World) : (Op.equalIn 10000 23 (.agg (rc a)) (.agg (rc b))).run Try.prog w = .ok (eqB a b) w := by
  obtain ⟨i, hi⟩ : ∃ i, Try.prog.info? 5 = some i := Option.isSome_iff_exists.1 (by kernel_rfl)
  rw [show (10000 : Nat) = 9999 + 1 from rfl, run_equalIn_array w 9999 (rc a) (rc b) Try.underlying23 hi]
  rw [show Try.prog.cellsOf 5 = 1 by kernel_rfl, eqItems_rc a b w _ (fun i h => List.mem_range.1 h), eqB_range]

attribute [go_sem] rc_size
@[go_sem] theorem okA_rc (r : Rt) : okA 32 (.agg (rc r)) = true := by
  show ((rc r).size == 32 && (rc r).all (·.oneCell')) = true
  rw [rc_one, rc_size]; rfl
@[go_sem ↓] theorem load_root (ρ : Operand → Value) (dst : Option Tmp) (x : Operand) (ty : TypeId) (pos : String) (after : Array Edge) (guard : Option (Nat × Bool)) (w : World) :
    (execOp ρ { dst, op := .load 23 x, type := ty, pos, after, guard }).run Try.prog w = ldOut (ldA w (ρ x) 32) w (opRest Try.prog ρ { dst, op := .load 23 x, type := ty, pos, after, guard } w) :=
  run_load_out Try.isAgg23 Try.sizeOf23 ρ dst x ty pos after guard w
@[go_sem ↓] theorem store_root (ρ : Operand → Value) (dst : Option Tmp) (x y : Operand) (ty : TypeId) (pos : String) (after : Array Edge) (guard : Option (Nat × Bool)) (w : World) :
    (execOp ρ { dst, op := .store 23 x y, type := ty, pos, after, guard }).run Try.prog w = stOut (wrA w (ρ x) 32 && okA 32 (ρ y)) (stA w (ρ x) (ρ y)) (opRest Try.prog ρ { dst, op := .store 23 x y, type := ty, pos, after, guard } w) :=
  run_store_out Try.sizeOf23 ρ dst x y ty pos after guard w

def ordI (a b : Rt) : Int := if eqB a b then 0 else if lessR a b then -1 else 1

set_option maxHeartbeats 400000 in
theorem order_any (a b : Rt) (w : World) :
    Calls Try.prog 23 #[.agg (rc a), .agg (rc b)] w fun e w' => e = .returned (.int .i64 (ordI a b)) ∧ ∃ n os, w' = Sort.grow (w.drewN n) os := by
  have c := fun W => less_any a b W
  have hq : ordI a b = if eqB a b then 0 else if lessR a b then -1 else 1 := rfl
  unfold LessIs at c
  have HQ := Lib.hid hq; clear hq
  cases h1 : eqB a b
  · cases h2 : lessR a b
    all_goals
      rw [h2] at c
      have H1 := Lib.hid h1
      have H2 := Lib.hid h2; clear h2
      go_enter Try.func23, Try.ntmps23
      go_wp2_with (go_at_call 16; refine (c _).mono ?_; rintro e w1 ⟨rfl, n, os, rfl⟩)
      go_ret
      exact ⟨by rw [HQ.out, H1.out, H2.out]; rfl, n, _, by rw [Sort.alloc_eq_grow, Sort.alloc_eq_grow, Sort.grow_grow]; exact (congrArg (fun x => Sort.grow x os) (show (Sort.grow w (#[Obj.cells (rc a) 23] ++ #[Obj.cells (rc b) 23])).drewN n = Sort.grow (w.drewN n) _ from rfl)).trans (Sort.grow_grow _ _ _)⟩
  · have H1 := Lib.hid h1
    go_enter Try.func23, Try.ntmps23
    go_wp2_with fail
    go_ret
    exact ⟨by rw [HQ.out, H1.out]; rfl, 0, _, by rw [Sort.alloc_eq_grow, Sort.alloc_eq_grow, Sort.grow_grow]; rfl⟩
end Go.Proofs.Ytecppjbbodpcnaa
