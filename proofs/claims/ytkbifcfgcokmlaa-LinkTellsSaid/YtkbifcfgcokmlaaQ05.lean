/-
  Integers, numbers of 64 bits and bools as parts of structs: ==, parts, an argument's cells; in any translation that has them.
  Roots as plain data: thirty-two bytes, their cells, their order; no walk.
-/
import Derived.Test.YtkbifcfgcokmlaaQ04
import Derived.Laws.Small
import Derived.Test.YtkbifcfgcokmlaaRows
import Derived.ChangeMaps5
import Derived.OpenShut
import Derived.Carry
import Derived.WalkKit
import Derived.Below
import Derived.Sort.Grow
import Derived.Deep.WholeRow
import Derived.Deep.MidRow
import Derived.Deep.Draws
namespace Go.Proofs.Ytkbifcfgcokmlaa
open Go.RowKit
set_option maxRecDepth 100000

def num (n : UInt64) : Value := .int .u64 (n.toNat : Int)
attribute [go_sem] num
theorem num_inj {a b : UInt64} (h : num a = num b) : a = b := by
  simp only [num, Value.int.injEq, true_and] at h
  exact UInt64.toNat_inj.1 (by omega)
theorem num_beq (a b : UInt64) : ((a.toNat : Int) == (b.toNat : Int)) = decide (a = b) := by
  rw [Bool.eq_iff_iff, decide_eq_true_iff, beq_iff_eq]
  constructor
  · intro h; exact UInt64.toNat_inj.1 (by omega)
  · intro h; rw [h]
theorem eqNum (n : Nat) (a b : UInt64) (w : World) : (Op.equalIn (n + 1) 23 (num a) (num b)).run Try.prog w = .ok (decide (a = b)) w := by
  unfold num
  rw [run_equalIn_int w n 23 .u64 .u64 _ _ Try.underlying23, num_beq]
theorem eqInt (n : Nat) (a b : Int) (w : World) : (Op.equalIn (n + 1) 3 (.int .i64 a) (.int .i64 b)).run Try.prog w = .ok (decide (a = b)) w := by
  rw [run_equalIn_int w n 3 .i64 .i64 _ _ Try.underlying3]
  rfl
theorem eqBoo (n : Nat) (a b : Bool) (w : World) : (Op.equalIn (n + 1) 4 (.bool a) (.bool b)).run Try.prog w = .ok (decide (a = b)) w := by
  rw [run_equalIn_bool w n 4 _ _ Try.underlying4]
  cases a <;> cases b <;> rfl
theorem partN (c : Array Value) (o : Nat) (n : UInt64) (h : c[o]? = some (num n)) (w : World) : (part 23 c o).run Try.prog w = .ok (num n) w := part_one (P := Try.prog) Try.isAgg23 c o _ h w
theorem partI (c : Array Value) (o : Nat) (n : Int) (h : c[o]? = some (.int .i64 n)) (w : World) : (part 3 c o).run Try.prog w = .ok (.int .i64 n) w := part_one (P := Try.prog) Try.isAgg3 c o _ h w
theorem partB (c : Array Value) (o : Nat) (n : Bool) (h : c[o]? = some (.bool n)) (w : World) : (part 4 c o).run Try.prog w = .ok (.bool n) w := part_one (P := Try.prog) Try.isAgg4 c o _ h w
theorem cellsOf_num : Try.prog.cellsOf 23 = 1 := by kernel_rfl
theorem cellsOf_int : Try.prog.cellsOf 3 = 1 := by kernel_rfl
theorem cellsOf_boo : Try.prog.cellsOf 4 = 1 := by kernel_rfl
def Eint : Lie Int := ⟨3, 1, fun n => [.int .i64 n], by decide, fun _ => rfl, fun _ u h => by rw [List.mem_singleton.1 h]; rfl⟩
def Enum : Lie UInt64 := ⟨23, 1, fun n => [num n], by decide, fun _ => rfl, fun _ u h => by rw [List.mem_singleton.1 h]; rfl⟩
section
open Go.WideShapes Go.ChangeShapes
variable {H : Type} {enc : TypeId × Value → H} {w : World} {base : Nat} {sp : Nat → Bool} {held : Bool}
set_option maxRecDepth 100000 in
theorem cells_num {fuel : Nat} {cs : List Value} {x : DataW H × List MemPlace} (h : DataW.trod enc Try.prog w base sp held fuel 23 cs = some x) : ∃ n : UInt64, cs = [num n] := by
  obtain ⟨n, e1, _, e3⟩ := DataW.trod_int Try.underlying23 h
  have hb : (decide (IntKind.u64.min ≤ n) && decide (n ≤ IntKind.u64.max)) = true := e3
  rw [Bool.and_eq_true, decide_eq_true_eq, decide_eq_true_eq, show IntKind.u64.min = 0 from rfl, show IntKind.u64.max = 18446744073709551615 from rfl] at hb
  refine ⟨UInt64.ofNat n.toNat, ?_⟩
  rw [e1, num, UInt64.toNat_ofNat', Nat.mod_eq_of_lt (by simp; omega)]
  congr 2
  omega
set_option maxRecDepth 100000 in
theorem cells_int {fuel : Nat} {cs : List Value} {x : DataW H × List MemPlace} (h : DataW.trod enc Try.prog w base sp held fuel 3 cs = some x) : ∃ n : Int, cs = [.int .i64 n] := by
  obtain ⟨n, e1, _, _⟩ := DataW.trod_int Try.underlying3 h
  exact ⟨n, e1⟩
set_option maxRecDepth 100000 in
theorem cells_boo {fuel : Nat} {cs : List Value} {x : DataW H × List MemPlace} (h : DataW.trod enc Try.prog w base sp held fuel 4 cs = some x) : ∃ n : Bool, cs = [.bool n] := by
  obtain ⟨n, e1, _⟩ := DataW.trod_bool Try.underlying4 h
  exact ⟨n, e1⟩
end
end Go.Proofs.Ytkbifcfgcokmlaa
namespace Go.Proofs.Ytkbifcfgcokmlaa
open Go.RowKit
set_option maxRecDepth 100000

abbrev Rt := Vector UInt8 32

/-- A root's cells. -/
def rc (r : Rt) : Array Value := r.toArray.map fun b => .int .u8 (b.toNat : Int)
/-- The byte at a place. -/
def at8 (r : Rt) (k : Nat) : Int := ((r.toList.getD k 0).toNat : Int)

theorem rc_size (r : Rt) : (rc r).size = 32 := by simp [rc]
theorem rc_get (r : Rt) (k : Nat) (h : k < 32) : (rc r)[k]? = some (.int .u8 (at8 r k)) := by
  simp [rc, at8, h]
@[go_sem] theorem rc_getElem (r : Rt) (k : Nat) (h : k < (rc r).size) : (rc r)[k] = .int .u8 (at8 r k) := by
  have h' : k < 32 := by rw [rc_size] at h; exact h
  have := rc_get r k h'
  rw [Array.getElem?_eq_getElem h] at this
  exact Option.some.inj this
theorem at8_bd (r : Rt) (k : Nat) : 0 ≤ at8 r k ∧ at8 r k < 256 := by
  unfold at8
  have := (r.toList.getD k 0).toNat_lt
  omega
theorem rc_inj {a b : Rt} (h : rc a = rc b) : a = b := by
  unfold rc at h
  have hi : Function.Injective (fun b : UInt8 => Value.int .u8 (b.toNat : Int)) := by
    intro x y hxy
    simp only [Value.int.injEq, true_and] at hxy
    exact UInt8.toNat_inj.1 (by omega)
  have := (Array.map_inj_right (f := fun b : UInt8 => Value.int .u8 (b.toNat : Int)) (fun x y h => hi h)).1 h
  exact Vector.toArray_inj.1 this
theorem rc_one (r : Rt) : (rc r).all (·.oneCell') = true := by
  rw [Array.all_eq_true_iff_forall_mem]
  intro v hv
  obtain ⟨b, _, rfl⟩ := Array.mem_map.1 hv
  rfl

/-- Which of two lists of bytes stands first, at the first place at which they differ. -/
def lessL : List UInt8 → List UInt8 → Bool
  | x :: xs, y :: ys => if x = y then lessL xs ys else decide (x < y)
  | _, _ => false
def lessR (a b : Rt) : Bool := lessL a.toList b.toList

theorem lessL_irrefl : ∀ l, lessL l l = false
  | [] => rfl
  | x :: xs => by simp [lessL, lessL_irrefl xs]
theorem lessL_asymm : ∀ a b, lessL a b = true → lessL b a = false
  | [], _, h => by simp [lessL] at h
  | _ :: _, [], h => by simp [lessL] at h
  | x :: xs, y :: ys, h => by
    unfold lessL at h ⊢
    by_cases e : x = y
    · subst e; simp at h ⊢; exact lessL_asymm xs ys h
    · rw [if_neg e] at h; rw [if_neg (Ne.symm e)]
      simp at h ⊢
      exact UInt8.le_of_lt h
theorem lessL_trans : ∀ a b c, lessL a b = true → lessL b c = true → lessL a c = true
  | [], _, _, h, _ => by simp [lessL] at h
  | _ :: _, [], _, h, _ => by simp [lessL] at h
  | _ :: _, _ :: _, [], _, h => by simp [lessL] at h
  | x :: xs, y :: ys, z :: zs, h, k => by
    unfold lessL at h k ⊢
    by_cases e : x = y
    · subst e
      by_cases f : x = z
      · subst f; simp at h k ⊢; exact lessL_trans xs ys zs h k
      · rw [if_neg f] at k ⊢; exact k
    · rw [if_neg e] at h
      by_cases f : y = z
      · subst f; rw [if_neg e]; exact h
      · rw [if_neg f] at k
        have h' : x < y := by simpa using h
        have k' : y < z := by simpa using k
        have hk := UInt8.lt_trans h' k'
        rw [if_neg (fun g => by subst g; exact absurd hk (UInt8.lt_irrefl _))]
        simpa using hk
theorem lessL_tri : ∀ a b, a.length = b.length → lessL a b = false → lessL b a = false → a = b
  | [], [], _, _, _ => rfl
  | [], _ :: _, h, _, _ => by simp at h
  | _ :: _, [], h, _, _ => by simp at h
  | x :: xs, y :: ys, hl, h, k => by
    unfold lessL at h k
    by_cases e : x = y
    · subst e; simp at h k; rw [lessL_tri xs ys (by simpa using hl) h k]
    · rw [if_neg e] at h; rw [if_neg (Ne.symm e)] at k
      simp at h k
      exact absurd (UInt8.le_antisymm k h) e

theorem lessR_irrefl (a : Rt) : lessR a a = false := lessL_irrefl _
theorem lessR_asymm {a b : Rt} (h : lessR a b = true) : lessR b a = false := lessL_asymm _ _ h
theorem lessR_trans {a b c : Rt} (h : lessR a b = true) (k : lessR b c = true) : lessR a c = true := lessL_trans _ _ _ h k
theorem lessR_tri {a b : Rt} (h : lessR a b = false) (k : lessR b a = false) : a = b := by
  have := lessL_tri a.toList b.toList (by simp) h k
  exact Vector.toList_inj.1 this

theorem getD_in (l : List UInt8) {k : Nat} (h : k < l.length) : l.getD k 0 = l[k] := by simp [h]

/-- The order from place k on. -/
def lessFrom (a b : Rt) (k : Nat) : Bool := lessL (a.toList.drop k) (b.toList.drop k)
theorem lessFrom_zero (a b : Rt) : lessFrom a b 0 = lessR a b := rfl
theorem lessFrom_end (a b : Rt) : lessFrom a b 32 = false := by
  unfold lessFrom
  rw [List.drop_of_length_le (by simp)]
  rfl
theorem lessFrom_same (a b : Rt) (k : Nat) (hk : k < 32) (h : at8 a k = at8 b k) : lessFrom a b k = lessFrom a b (k + 1) := by
  unfold lessFrom
  have ha : k < a.toList.length := by simp; omega
  have hb : k < b.toList.length := by simp; omega
  have e : a.toList[k] = b.toList[k] := by
    have h' : (a.toList.getD k 0).toNat = (b.toList.getD k 0).toNat := by unfold at8 at h; omega
    rw [getD_in _ ha, getD_in _ hb] at h'
    exact UInt8.toNat_inj.1 h'
  rw [List.drop_eq_getElem_cons ha, List.drop_eq_getElem_cons hb, lessL, if_pos e]
theorem lessFrom_other (a b : Rt) (k : Nat) (hk : k < 32) (h : at8 a k ≠ at8 b k) : lessFrom a b k = decide (at8 a k < at8 b k) := by
  unfold lessFrom
  have ha : k < a.toList.length := by simp; omega
  have hb : k < b.toList.length := by simp; omega
  unfold at8 at h ⊢
  rw [getD_in _ ha, getD_in _ hb] at h ⊢
  rw [List.drop_eq_getElem_cons ha, List.drop_eq_getElem_cons hb, lessL, if_neg (fun g => h (by rw [g]))]
  rw [decide_eq_decide, UInt8.lt_iff_toNat_lt]
  omega

/-- New blocks and draws alone. -/
theorem below_grow (w : World) (q : Nat) (os : Array Obj) : Below w.heap.size w (Sort.grow (w.drewN q) os) := by
  refine ⟨rfl, rfl, rfl, ?_, fun i hi => ?_⟩
  · show w.heap.size ≤ (Sort.grow (w.drewN q) os).heap.size
    rw [Sort.size_grow]; exact Nat.le_add_right _ _
  · show (w.heap ++ os)[i]? = w.heap[i]?
    rw [Array.getElem?_append_left hi]
end Go.Proofs.Ytkbifcfgcokmlaa
