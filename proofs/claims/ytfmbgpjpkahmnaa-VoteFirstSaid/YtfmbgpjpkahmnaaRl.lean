/-
  A root's literal with one byte; a root of one byte.
-/
import Derived.Test.YtfmbgpjpkahmnaaPr
namespace Go.Proofs.Ytfmbgpjpkahmnaa
open Go.RowKit

/-- A root's literal with one byte. -/
def bRt (v : Value) : Option Value :=
  match v with
  | .int .u8 n => some (.agg (putSeg (rc zr) 0 #[.int .u8 n]))
  | _ => none
@[go_sem] theorem bRt_int (n : Int) : bRt (.int .u8 n) = some (.agg (putSeg (rc zr) 0 #[.int .u8 n])) := rfl
@[go_sem ↓] theorem build_root1 (ρ : Operand → Value) (dst : Option Tmp) (x : Operand) (ty : TypeId) (pos : String) (after : Array Edge) (guard : Option (Nat × Bool)) (w : World) :
    (execOp ρ { dst, op := .build 27 #[(0, x)], type := ty, pos, after, guard }).run Try.prog w = vOutE (bRt (ρ x)) w (opRest Try.prog ρ { dst, op := .build 27 #[(0, x)], type := ty, pos, after, guard } w) := by
  cases h : bRt (ρ x) with
  | none => rfl
  | some v =>
    unfold bRt at h
    split at h
    · rename_i n hx
      have hv := Option.some.inj h
      subst hv
      have hf : Instr.fill (fun i => some (i * 1, 1)) (rc zr) [(0, .int .u8 n)] = some (putSeg (rc zr) 0 #[.int .u8 n]) := by
        rw [fill_cons _ (rc zr) 0 (.int .u8 n) [] (0 * 1) 1 rfl rfl (by rw [rc_size]; omega)]
        rfl
      unfold execOp
      simp only [Instr.build, Sem.run_bind, zero_root, Result.andThen_ok, run_underlying Try.underlying27, Try.sizeOf5, List.map_toArray, List.map_cons, List.map_nil, hx, Value.cells, hf]
      rfl
    · cases h
def r1 : Rt := zr.set 0 1
def r2 : Rt := zr.set 0 2
def r3 : Rt := zr.set 0 3
@[go_sem] theorem put_r1 : putSeg (rc zr) 0 #[.int .u8 1] = rc r1 := by kernel_rfl
@[go_sem] theorem put_r2 : putSeg (rc zr) 0 #[.int .u8 2] = rc r2 := by kernel_rfl
@[go_sem] theorem put_r3 : putSeg (rc zr) 0 #[.int .u8 3] = rc r3 := by kernel_rfl
theorem r_ne : r1 ≠ r2 ∧ r1 ≠ r3 ∧ r2 ≠ r3 := by decide +kernel
end Go.Proofs.Ytfmbgpjpkahmnaa
