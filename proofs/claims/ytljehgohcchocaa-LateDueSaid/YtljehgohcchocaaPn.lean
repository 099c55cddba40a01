/-
  Integers, numbers of 64 bits and bools as parts of structs: ==, parts, an argument's cells; in any translation that has them.
-/
import Derived.Test.YtljehgohcchocaaSt
import Derived.Laws.Small
import Derived.Test.YtljehgohcchocaaRows
import Derived.ChangeMaps5
import Derived.OpenShut
import Derived.Carry
namespace Go.Proofs.Ytljehgohcchocaa
open Go.RowKit
set_option maxRecDepth 100000

def num (n : UInt64) : Value := .int .u64 (n.toNat : Int)
attribute [go_sem] num
theorem num_inj {a b : UInt64} (h : num a = num b) : a = b := by
  simp only [num, Value.int.injEq, true_and] at h
  exact UInt64.toNat_inj.1 (by omega)
theorem num_beq (a b : UInt64) : ((a.toNat : Int) == (b.toNat : Int)) = decide (a = b) := by
  rw [Bool.eq_iff_iff, decide_eq_true_iff, beq_iff_eq]
  constructor
  · intro h; exact UInt64.toNat_inj.1 (by omega)
  · intro h; rw [h]
theorem eqNum (n : Nat) (a b : UInt64) (w : World) : (Op.equalIn (n + 1) 23 (num a) (num b)).run Try.prog w = .ok (decide (a = b)) w := by
  unfold num
  rw [run_equalIn_int w n 23 .u64 .u64 _ _ Try.underlying23, num_beq]
theorem eqInt (n : Nat) (a b : Int) (w : World) : (Op.equalIn (n + 1) 3 (.int .i64 a) (.int .i64 b)).run Try.prog w = .ok (decide (a = b)) w := by
  rw [run_equalIn_int w n 3 .i64 .i64 _ _ Try.underlying3]
  rfl
theorem eqBoo (n : Nat) (a b : Bool) (w : World) : (Op.equalIn (n + 1) 4 (.bool a) (.bool b)).run Try.prog w = .ok (decide (a = b)) w := by
  rw [run_equalIn_bool w n 4 _ _ Try.underlying4]
  cases a <;> cases b <;> rfl
theorem partN (c : Array Value) (o : Nat) (n : UInt64) (h : c[o]? = some (num n)) (w : World) : (part 23 c o).run Try.prog w = .ok (num n) w := part_one (P := Try.prog) Try.isAgg23 c o _ h w
theorem partI (c : Array Value) (o : Nat) (n : Int) (h : c[o]? = some (.int .i64 n)) (w : World) : (part 3 c o).run Try.prog w = .ok (.int .i64 n) w := part_one (P := Try.prog) Try.isAgg3 c o _ h w
theorem partB (c : Array Value) (o : Nat) (n : Bool) (h : c[o]? = some (.bool n)) (w : World) : (part 4 c o).run Try.prog w = .ok (.bool n) w := part_one (P := Try.prog) Try.isAgg4 c o _ h w
theorem cellsOf_num : Try.prog.cellsOf 23 = 1 := by kernel_rfl
theorem cellsOf_int : Try.prog.cellsOf 3 = 1 := by kernel_rfl
theorem cellsOf_boo : Try.prog.cellsOf 4 = 1 := by kernel_rfl
def Eint : Lie Int := ⟨3, 1, fun n => [.int .i64 n], by decide, fun _ => rfl, fun _ u h => by rw [List.mem_singleton.1 h]; rfl⟩
def Enum : Lie UInt64 := ⟨23, 1, fun n => [num n], by decide, fun _ => rfl, fun _ u h => by rw [List.mem_singleton.1 h]; rfl⟩
section
open Go.WideShapes Go.ChangeShapes
variable {H : Type} {enc : TypeId × Value → H} {w : World} {base : Nat} {sp : Nat → Bool} {held : Bool}
set_option maxRecDepth 100000 in
theorem cells_num {fuel : Nat} {cs : List Value} {x : DataW H × List MemPlace} (h : DataW.trod enc Try.prog w base sp held fuel 23 cs = some x) : ∃ n : UInt64, cs = [num n] := by
  obtain ⟨n, e1, _, e3⟩ := DataW.trod_int Try.underlying23 h
  have hb : (decide (IntKind.u64.min ≤ n) && decide (n ≤ IntKind.u64.max)) = true := e3
  rw [Bool.and_eq_true, decide_eq_true_eq, decide_eq_true_eq, show IntKind.u64.min = 0 from rfl, show IntKind.u64.max = 18446744073709551615 from rfl] at hb
  refine ⟨UInt64.ofNat n.toNat, ?_⟩
  rw [e1, num, UInt64.toNat_ofNat', Nat.mod_eq_of_lt (by simp; omega)]
  congr 2
  omega
set_option maxRecDepth 100000 in
theorem cells_int {fuel : Nat} {cs : List Value} {x : DataW H × List MemPlace} (h : DataW.trod enc Try.prog w base sp held fuel 3 cs = some x) : ∃ n : Int, cs = [.int .i64 n] := by
  obtain ⟨n, e1, _, _⟩ := DataW.trod_int Try.underlying3 h
  exact ⟨n, e1⟩
set_option maxRecDepth 100000 in
theorem cells_boo {fuel : Nat} {cs : List Value} {x : DataW H × List MemPlace} (h : DataW.trod enc Try.prog w base sp held fuel 4 cs = some x) : ∃ n : Bool, cs = [.bool n] := by
  obtain ⟨n, e1, _⟩ := DataW.trod_bool Try.underlying4 h
  exact ⟨n, e1⟩
end
end Go.Proofs.Ytljehgohcchocaa
