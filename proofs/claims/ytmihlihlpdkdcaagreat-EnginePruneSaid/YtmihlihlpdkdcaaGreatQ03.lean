import Derived.Test.YtmihlihlpdkdcaaGreatQ02
import Derived.Laws.Small
import Derived.Test.YtmihlihlpdkdcaaGreatRows
import Derived.ChangeMaps5
import Derived.OpenShut
import Derived.Carry
import Derived.WalkKit
import Derived.Below
import Derived.Sort.Grow
import Derived.Deep.WholeRow
import Derived.Deep.MidRow
import Derived.Deep.Draws
import Derived.Test.YtmihlihlpdkdcaaGreatQ01
import Derived.Outline
import Derived.Deep.QuietTactic
import Derived.BigQuiet
import Derived.Lib.Hide
import Derived.ChangeKeysEq
import Derived.WideKeyArr2
import Derived.Deep.Slices
namespace Go.Proofs.YtmihlihlpdkdcaaGreat
open Go.RowKit
set_option maxRecDepth 200000
set_option maxHeartbeats 64000000
section
open Go.RowKit
def num (n : UInt64) : Value := .int .u64 (n.toNat : Int)
attribute [go_sem] num
theorem yx2 {a b : UInt64} (h : num a = num b) : a = b := by
 simp only [num, Value.int.injEq, true_and] at h
 exact UInt64.toNat_inj.1 (by omega)
theorem ysw (a b : UInt64) : ((a.toNat : Int) == (b.toNat : Int)) = decide (a = b) := by
 rw [Bool.eq_iff_iff, decide_eq_true_iff, beq_iff_eq]
 constructor
 ·
  intro h; exact UInt64.toNat_inj.1 (by omega)
 ·
  intro h; rw [h]
theorem ya9 (n : Nat) (a b : UInt64) (w : World) : (Op.equalIn (n + 1) 30 (num a) (num b)).run Tryz.prog w = .ok (decide (a = b)) w := by
 unfold num
 rw [run_equalIn_int w n 30 .u64 .u64 _ _ Tryz.underlying30, ysw]
theorem ytn (n : Nat) (a b : Int) (w : World) : (Op.equalIn (n + 1) 3 (.int .i64 a) (.int .i64 b)).run Tryz.prog w = .ok (decide (a = b)) w := by
 rw [run_equalIn_int w n 3 .i64 .i64 _ _ Tryz.underlying3]
 rfl
theorem yyi (n : Nat) (a b : Bool) (w : World) : (Op.equalIn (n + 1) 4 (.bool a) (.bool b)).run Tryz.prog w = .ok (decide (a = b)) w := by
 rw [run_equalIn_bool w n 4 _ _ Tryz.underlying4]
 cases a <;> cases b <;> rfl
theorem zqm (c : Array Value) (o : Nat) (n : UInt64) (h : c[o]? = some (num n)) (w : World) : (part 30 c o).run Tryz.prog w = .ok (num n) w := zwu (P := Tryz.prog) Tryz.isAgg30 c o _ h w
theorem yit (c : Array Value) (o : Nat) (n : Int) (h : c[o]? = some (.int .i64 n)) (w : World) : (part 3 c o).run Tryz.prog w = .ok (.int .i64 n) w := zwu (P := Tryz.prog) Tryz.isAgg3 c o _ h w
theorem ywd (c : Array Value) (o : Nat) (n : Bool) (h : c[o]? = some (.bool n)) (w : World) : (part 4 c o).run Tryz.prog w = .ok (.bool n) w := zwu (P := Tryz.prog) Tryz.isAgg4 c o _ h w
theorem zb9 : Tryz.prog.cellsOf 30 = 1 := by kernel_rfl
theorem zl4 : Tryz.prog.cellsOf 3 = 1 := by kernel_rfl
theorem z5k : Tryz.prog.cellsOf 4 = 1 := by kernel_rfl
def Eint : Lie Int := ⟨3, 1, fun n => [.int .i64 n], by decide, fun _ => rfl, fun _ u h => by rw [List.mem_singleton.1 h]; rfl⟩
def Enum : Lie UInt64 := ⟨30, 1, fun n => [num n], by decide, fun _ => rfl, fun _ u h => by rw [List.mem_singleton.1 h]; rfl⟩
section
open Go.WideShapes Go.ChangeShapes
variable {H : Type} {enc : TypeId × Value → H} {w : World} {base : Nat} {sp : Nat → Bool} {held : Bool}
theorem zdh {fuel : Nat} {cs : List Value} {x : DataW H × List MemPlace} (h : DataW.trod enc Tryz.prog w base sp held fuel 30 cs = some x) : ∃ n : UInt64, cs = [num n] := by
 obtain ⟨n, e1, _, e3⟩ := DataW.trod_int Tryz.underlying30 h
 have hb : (decide (IntKind.u64.min ≤ n) && decide (n ≤ IntKind.u64.max)) = true := e3
 rw [Bool.and_eq_true, decide_eq_true_eq, decide_eq_true_eq, show IntKind.u64.min = 0 from rfl, show IntKind.u64.max = 18446744073709551615 from rfl] at hb
 refine ⟨UInt64.ofNat n.toNat, ?_⟩
 rw [e1, num, UInt64.toNat_ofNat', Nat.mod_eq_of_lt (by simp; omega)]
 congr 2
 omega
theorem zsf {fuel : Nat} {cs : List Value} {x : DataW H × List MemPlace} (h : DataW.trod enc Tryz.prog w base sp held fuel 3 cs = some x) : ∃ n : Int, cs = [.int .i64 n] := by
 obtain ⟨n, e1, _, _⟩ := DataW.trod_int Tryz.underlying3 h
 exact ⟨n, e1⟩
theorem yhz {fuel : Nat} {cs : List Value} {x : DataW H × List MemPlace} (h : DataW.trod enc Tryz.prog w base sp held fuel 4 cs = some x) : ∃ n : Bool, cs = [.bool n] := by
 obtain ⟨n, e1, _⟩ := DataW.trod_bool Tryz.underlying4 h
 exact ⟨n, e1⟩
end
end
abbrev Rt := Vector UInt8 32
def rc (r : Rt) : Array Value := r.toArray.map fun b => .int .u8 (b.toNat : Int)
def at8 (r : Rt) (k : Nat) : Int := ((r.toList.getD k 0).toNat : Int)
theorem zar (r : Rt) : (rc r).size = 32 := by simp [rc]
theorem z74 (r : Rt) (k : Nat) (h : k < 32) : (rc r)[k]? = some (.int .u8 (at8 r k)) := by
 simp [rc, at8, h]
@[go_sem] theorem zos (r : Rt) (k : Nat) (h : k < (rc r).size) : (rc r)[k] = .int .u8 (at8 r k) := by
 have h' : k < 32 := by rw [zar] at h; exact h
 have := z74 r k h'
 rw [Array.getElem?_eq_getElem h] at this
 exact Option.some.inj this
theorem yvd (r : Rt) (k : Nat) : 0 ≤ at8 r k ∧ at8 r k < 256 := by
 unfold at8
 have := (r.toList.getD k 0).toNat_lt
 omega
theorem yon {a b : Rt} (h : rc a = rc b) : a = b := by
 unfold rc at h
 have hi : Function.Injective (fun b : UInt8 => Value.int .u8 (b.toNat : Int)) := by
  intro x y hxy
  simp only [Value.int.injEq, true_and] at hxy
  exact UInt8.toNat_inj.1 (by omega)
 have := (Array.map_inj_right (f := fun b : UInt8 => Value.int .u8 (b.toNat : Int)) (fun x y h => hi h)).1 h
 exact Vector.toArray_inj.1 this
theorem yoj (r : Rt) : (rc r).all (·.oneCell') = true := by
 rw [Array.all_eq_true_iff_forall_mem]
 intro v hv
 obtain ⟨b, _, rfl⟩ := Array.mem_map.1 hv
 rfl
def yd7 : List UInt8 → List UInt8 → Bool
 | x :: xs, y :: ys => if x = y then yd7 xs ys else decide (x < y)
 | _, _ => false
def zi0 (a b : Rt) : Bool := yd7 a.toList b.toList
theorem zdc (l : List UInt8) {k : Nat} (h : k < l.length) : l.getD k 0 = l[k] := by simp [h]
def zhl (a b : Rt) (k : Nat) : Bool := yd7 (a.toList.drop k) (b.toList.drop k)
theorem z0r (a b : Rt) : zhl a b 32 = false := by
 unfold zhl
 rw [List.drop_of_length_le (by simp)]
 rfl
theorem zxs (a b : Rt) (k : Nat) (hk : k < 32) (h : at8 a k = at8 b k) : zhl a b k = zhl a b (k + 1) := by
 unfold zhl
 have ha : k < a.toList.length := by simp; omega
 have hb : k < b.toList.length := by simp; omega
 have e : a.toList[k] = b.toList[k] := by
  have h' : (a.toList.getD k 0).toNat = (b.toList.getD k 0).toNat := by unfold at8 at h; omega
  rw [zdc _ ha, zdc _ hb] at h'
  exact UInt8.toNat_inj.1 h'
 rw [List.drop_eq_getElem_cons ha, List.drop_eq_getElem_cons hb, yd7, if_pos e]
theorem zug (a b : Rt) (k : Nat) (hk : k < 32) (h : at8 a k ≠ at8 b k) : zhl a b k = decide (at8 a k < at8 b k) := by
 unfold zhl
 have ha : k < a.toList.length := by simp; omega
 have hb : k < b.toList.length := by simp; omega
 unfold at8 at h ⊢
 rw [zdc _ ha, zdc _ hb] at h ⊢
 rw [List.drop_eq_getElem_cons ha, List.drop_eq_getElem_cons hb, yd7, if_neg (fun g => h (by rw [g]))]
 rw [decide_eq_decide, UInt8.lt_iff_toNat_lt]
 omega
section
open Go.WideShapes Go.ChangeShapes
open Go.RowKit Go.WideShapes Go.ChangeShapes
def eqB (a b : Rt) : Bool := decide (a = b)
theorem yem {a b : Rt} (h : ∀ i, i < 32 → at8 a i = at8 b i) : a = b := by
 apply Vector.toList_inj.1
 apply List.ext_getElem (by simp)
 intro i h1 h2
 have := h i (by simpa using h1)
 unfold at8 at this
 rw [zdc _ h1, zdc _ h2] at this
 exact UInt8.toNat_inj.1 (by omega)
theorem ye1 (a b : Rt) : ((List.range 32).all fun i => at8 a i == at8 b i) = eqB a b := by
 unfold eqB
 rw [Bool.eq_iff_iff, List.all_eq_true, decide_eq_true_iff]
 constructor
 ·
  intro h
  exact yem fun i hi => by simpa using h i (List.mem_range.2 hi)
 ·
  rintro rfl i _
  simp
theorem yg2 (a : Rt) (i : Nat) (hi : i < 32) (w : World) : (part 5 (rc a) i).run Tryz.prog w = .ok (.int .u8 (at8 a i)) w := by
 have h := z74 a i hi
 have a5 := Tryz.isAgg5
 unfold part
 go_simp
theorem zv1 (n : Nat) (a b : Rt) (w : World) : ∀ is : List Nat, (∀ i ∈ is, i < 32) →
  (Op.eqItems (n + 1) 5 1 (rc a) (rc b) is).run Tryz.prog w = .ok (is.all fun i => at8 a i == at8 b i) w
 | [], _ => by simp [Op.eqItems]
 | i :: is, h => by
  have hi := h i (by simp)
  have ih := zv1 n a b w is (fun j hj => h j (by simp [hj]))
  have u5 := Tryz.underlying5
  have e1 : (Op.equalIn (n + 1) 5 (.int .u8 (at8 a i)) (.int .u8 (at8 b i))).run Tryz.prog w = .ok (at8 a i == at8 b i) w := by
   rw [Op.equalIn]
   go_simp
  simp only [Op.eqItems, Nat.mul_one, Sem.run_bind, yg2 a i hi, yg2 b i hi, Result.andThen_ok, e1]
  by_cases e : at8 a i = at8 b i
  ·
   simp [e, ih]
  ·
   simp [e]
theorem yg8 (n : Nat) (a b : Rt) (w : World) : (Op.equalIn (n + 2) 23 (.agg (rc a)) (.agg (rc b))).run Tryz.prog w = .ok (eqB a b) w := by
 obtain ⟨i, hi⟩ : ∃ i, Tryz.prog.info? 5 = some i := Option.isSome_iff_exists.1 (by kernel_rfl)
 rw [run_equalIn_array w (n + 1) (rc a) (rc b) Tryz.underlying23 hi]
 rw [show Tryz.prog.cellsOf 5 = 1 by kernel_rfl, zv1 n a b w _ (fun i h => List.mem_range.1 h), ye1]
@[go_sem] theorem yy6 (a b : Rt) (w : World) : (Op.equalIn 10000 23 (.agg (rc a)) (.agg (rc b))).run Tryz.prog w = .ok (eqB a b) w := yg8 9998 a b w
theorem z68 (a : Rt) : eqB a a = true := by simp [eqB]
theorem yib (a b : Rt) : eqB a b = true ↔ a = b := by simp [eqB]
attribute [go_sem] zar
@[go_sem] theorem yy0 (r : Rt) : okA 32 (.agg (rc r)) = true := by
 show ((rc r).size == 32 && (rc r).all (·.oneCell')) = true
 rw [yoj, zar]; rfl
@[go_sem ↓] theorem yvk (ρ : Operand → Value) (dst : Option Tmp) (x : Operand) (ty : TypeId) (pos : String) (after : Array Edge) (guard : Option (Nat × Bool)) (w : World) :
  (execOp ρ { dst, op := .load 23 x, type := ty, pos, after, guard }).run Tryz.prog w = zje (ldA w (ρ x) 32) w (zbe Tryz.prog ρ { dst, op := .load 23 x, type := ty, pos, after, guard } w) :=
 zbp Tryz.isAgg23 Tryz.sizeOf23 ρ dst x ty pos after guard w
@[go_sem ↓] theorem ytd (ρ : Operand → Value) (dst : Option Tmp) (x y : Operand) (ty : TypeId) (pos : String) (after : Array Edge) (guard : Option (Nat × Bool)) (w : World) :
  (execOp ρ { dst, op := .store 23 x y, type := ty, pos, after, guard }).run Tryz.prog w = zjf (wrA w (ρ x) 32 && okA 32 (ρ y)) (stA w (ρ x) (ρ y)) (zbe Tryz.prog ρ { dst, op := .store 23 x y, type := ty, pos, after, guard } w) :=
 zbh Tryz.sizeOf23 ρ dst x y ty pos after guard w
def zr : Rt := Vector.replicate 32 0
theorem yxq : rc zr = #[.int .u8 0, .int .u8 0, .int .u8 0, .int .u8 0, .int .u8 0, .int .u8 0, .int .u8 0, .int .u8 0, .int .u8 0, .int .u8 0, .int .u8 0, .int .u8 0, .int .u8 0, .int .u8 0, .int .u8 0, .int .u8 0, .int .u8 0, .int .u8 0, .int .u8 0, .int .u8 0, .int .u8 0, .int .u8 0, .int .u8 0, .int .u8 0, .int .u8 0, .int .u8 0, .int .u8 0, .int .u8 0, .int .u8 0, .int .u8 0, .int .u8 0, .int .u8 0] := by kernel_rfl
theorem znz (w : World) : (zeroValue 23).run Tryz.prog w = .ok (.agg (rc zr)) w := by
 rw [yxq]; exact Tryz.zeroValue23 w
@[go_sem ↓] theorem yth (ρ : Operand → Value) (dst : Option Tmp) (ty : TypeId) (pos : String) (after : Array Edge) (guard : Option (Nat × Bool)) (w : World) :
  (execOp ρ { dst, op := .alloc 23, type := ty, pos, after, guard }).run Tryz.prog w = .ok (.value (.pointer (some ⟨w.heap.size, 0, none⟩))) (w.alloc (.cells (rc zr) 23)) := by
 unfold execOp
 simp only [Instr.alloc, Sem.run_bind, znz, Result.andThen_ok]
 rfl
def zfz : Value → Array Value
 | .agg c => c
 | _ => #[]
attribute [go_sem] zfz
theorem zj6 (z c : Array Value) (h : c.size = z.size) : Array.foldl (fun cs (p : Value × Nat) => cs.setIfInBounds p.2 p.1) z c.zipIdx 0 c.size = c := by
 have e : Array.foldl (fun cs (p : Value × Nat) => cs.setIfInBounds p.2 p.1) z c.zipIdx 0 c.size = ((c.toList.zipIdx 0).foldl (fun c p => c.setIfInBounds p.2 p.1) z) := by
  have h2 : c.size = c.zipIdx.size := by simp
  rw [h2, ← Array.foldl_toList, Array.toList_zipIdx]
 rw [e]
 apply Array.ext_getElem?
 intro j
 rw [zh1]
 by_cases hj : j < c.size
 ·
  rw [if_pos (by simp; omega)]; simp
 ·
  rw [if_neg (by simp; omega), Array.getElem?_eq_none (by omega), Array.getElem?_eq_none (by omega)]
theorem arr_root : WideMaps.ArrKey Tryz.prog 23 5 32 := ⟨Tryz.underlying23, by kernel_rfl, by kernel_rfl, by kernel_rfl⟩
theorem zg9 (r : Rt) : ∀ u ∈ (rc r).toList, u.oneCell' = true := fun u h => (Array.all_eq_true_iff_forall_mem.1 (yoj r)) u (by simpa using h)
section
variable {H : Type} {enc : TypeId × Value → H} {P : Program}
end
section
variable {H : Type} {enc : TypeId × Value → H} {w : World} {base : Nat} {sp : Nat → Bool} {held : Bool}
theorem zek {fuel : Nat} {cs : List Value} {x : DataW H × List MemPlace} (h : DataW.trod enc Tryz.prog w base sp held fuel 23 cs = some x) : ∃ r : Rt, cs = (rc r).toList := by
 obtain ⟨xs, m, _, _, hl, hxl, hx⟩ := DataW.trod_array Tryz.underlying23 h
 rw [arr_root.size] at hl
 rw [arr_root.one] at hx
 have hc : ∀ i, i < 32 → ∃ n : Int, cs[i]? = some (.int .u8 n) ∧ 0 ≤ n ∧ n < 256 := fun i hi => by
  have h1 := hx i hi
  rw [List.getElem?_eq_getElem (by omega)] at h1
  obtain ⟨n, e1, _, e3⟩ := DataW.trod_int Tryz.underlying5 h1
  rw [Nat.mul_one, List.drop_eq_getElem_cons (by omega)] at e1
  have e4 : cs[i]'(by omega) = .int .u8 n := by
   rw [List.take_succ_cons, List.take_zero] at e1
   exact (List.cons.inj e1).1
  have hb : (decide (IntKind.u8.min ≤ n) && decide (n ≤ IntKind.u8.max)) = true := e3
  rw [Bool.and_eq_true, decide_eq_true_eq, decide_eq_true_eq, show IntKind.u8.min = 0 from rfl, show IntKind.u8.max = 255 from rfl] at hb
  exact ⟨n, by rw [List.getElem?_eq_getElem (by omega), e4], by omega, by omega⟩
 obtain ⟨f, hf⟩ := Deep.choose_lt hc
 refine ⟨Vector.ofFn fun i : Fin 32 => UInt8.ofNat (f i.val).toNat, ?_⟩
 apply List.ext_getElem?
 intro i
 by_cases hi : i < 32
 ·
  obtain ⟨h1, h2, h3⟩ := hf i hi
  rw [h1, Array.getElem?_toList, z74 _ i hi]
  unfold at8
  rw [zdc _ (by simp; exact hi)]
  simp
  omega
 ·
  rw [List.getElem?_eq_none (by omega), List.getElem?_eq_none (by simp [zar]; omega)]
end
end
theorem yvn (r : Rt) : (rc r).toList.length = 32 := by rw [Array.length_toList, zar]
theorem yku (n : Nat) (a b : Rt) (w : World) : (Op.equalIn (n + 2) 23 (.agg (rc a)) (.agg (rc b))).run Tryz.prog w = .ok (decide (a = b)) w := yg8 n a b w
theorem zz6 (c : Array Value) (o : Nat) (r : Rt) (h : c.extract o (o + 32) = rc r) (w : World) : (part 23 c o).run Tryz.prog w = .ok (.agg (rc r)) w := by
 rw [z6g (P := Tryz.prog) Tryz.isAgg23 Tryz.sizeOf23, h]
theorem zc7 : Tryz.prog.cellsOf 23 = 32 := by kernel_rfl
def Ert : Lie Rt := ⟨23, 32, fun r => (rc r).toList, by decide, yvn, zg9⟩
structure SlV where
 p : Option Addr
 len : Nat
 cap : Nat
def sv (s : SlV) : Value := .slice s.p s.len s.cap
@[go_sem] theorem zat (p : Option Addr) (n c : Nat) : sv ⟨p, n, c⟩ = .slice p n c := rfl
structure Nd where
 root : Rt
 parent : Int
 slot : UInt64
 just : UInt64
theorem Nd.ext {x y : Nd} (h0 : x.root = y.root) (h1 : x.parent = y.parent) (h2 : x.slot = y.slot) (h3 : x.just = y.just) : x = y := by cases x; cases y; simp_all
instance : DecidableEq Nd := fun x y => decidable_of_iff (x.root = y.root ∧ x.parent = y.parent ∧ x.slot = y.slot ∧ x.just = y.just) ⟨fun h => Nd.ext h.1 h.2.1 h.2.2.1 h.2.2.2, fun h => by subst h; exact ⟨rfl, rfl, rfl, rfl⟩⟩
def nd (l : List Nd) (i : Nat) : Nd := l.getD i ⟨zr, 0, 0, 0⟩
theorem ztc (l : List Nd) {i : Nat} (h : i < l.length) : nd l i = l[i] := by simp [nd, h]
def sl (l : List Nd) (i : Nat) : Nat := (nd l i).slot.toNat
def up (l : List Nd) (i : Nat) : Nat := (nd l i).parent.toNat
def z6h (l : List Nd) (i : Nat) : Prop :=
 sl l i ≤ 1099511627776 ∧ (i = 0 → (nd l i).parent = -1) ∧ (0 < i → 0 ≤ (nd l i).parent ∧ (nd l i).parent < i ∧ sl l (up l i) < sl l i) ∧ ∀ k, k < i → (nd l k).root ≠ (nd l i).root
instance (l : List Nd) (i : Nat) : Decidable (z6h l i) := by unfold z6h; exact inferInstance
def MayT (l : List Nd) : Prop := 1 ≤ l.length ∧ l.length ≤ 12 ∧ ∀ i, i < l.length → z6h l i
instance (l : List Nd) : Decidable (MayT l) := by unfold MayT; exact inferInstance
section
variable {l : List Nd}
theorem MayT.pos (h : MayT l) : 0 < l.length := h.1
theorem MayT.le (h : MayT l) : l.length ≤ 12 := h.2.1
theorem MayT.first (h : MayT l) : (nd l 0).parent = -1 := (h.2.2 0 h.pos).2.1 rfl
theorem MayT.par (h : MayT l) {k : Nat} (h0 : 0 < k) (hk : k < l.length) : (nd l k).parent = (up l k : Int) ∧ up l k < k ∧ sl l (up l k) < sl l k := by
 obtain ⟨a, b, c⟩ := (h.2.2 k hk).2.2.1 h0
 unfold up at *
 exact ⟨by omega, by omega, c⟩
theorem MayT.slot (h : MayT l) {k : Nat} (hk : k < l.length) : sl l k ≤ 1099511627776 := (h.2.2 k hk).1
theorem MayT.roots (h : MayT l) {i k : Nat} (hi : i < l.length) (hk : k < l.length) (e : (nd l i).root = (nd l k).root) : i = k := by
 rcases Nat.lt_trichotomy i k with h1 | h1 | h1
 ·
  exact absurd e ((h.2.2 k hk).2.2.2 i h1)
 ·
  exact h1
 ·
  exact absurd e.symm ((h.2.2 i hi).2.2.2 k h1)
def abv (l : List Nd) : Nat → Nat → Nat → Bool
 | 0, i, k => decide (k = i)
 | f + 1, i, k => if i < k then abv l f i (up l k) else decide (k = i)
def za5 (l : List Nd) (i k : Nat) : Bool := abv l k i k
theorem yir (h : MayT l) (i : Nat) : ∀ (k : Nat), k < l.length → ∀ f, k ≤ f → abv l f i k = abv l k i k := by
 intro k
 induction k using Nat.strongRecOn with
 | _ k ih =>
  intro hk f hf
  by_cases h0 : k = 0
  ·
   subst h0
   cases f with
   | zero => rfl
   | succ f => simp [abv]
  ·
   obtain ⟨_, hu, _⟩ := h.par (Nat.pos_of_ne_zero h0) hk
   obtain ⟨f', rfl⟩ : ∃ f', f = f' + 1 := ⟨f - 1, by omega⟩
   obtain ⟨k', hk'⟩ : ∃ k', k = k' + 1 := ⟨k - 1, by omega⟩
   have e1 := ih (up l k) hu (by omega) f' (by omega)
   have e2 := ih (up l k) hu (by omega) k' (by omega)
   rw [show abv l k i k = abv l (k' + 1) i k by rw [← hk']]
   simp only [abv]
   rw [e1, e2]
theorem zb4 (i : Nat) : za5 l i 0 = decide (i = 0) := by
 unfold za5 abv
 rw [Bool.eq_iff_iff, decide_eq_true_iff, decide_eq_true_iff]
 exact ⟨fun h => h.symm, fun h => h.symm⟩
theorem zqv (h : MayT l) (i : Nat) {k : Nat} (h0 : 0 < k) (hk : k < l.length) : za5 l i k = if i < k then za5 l i (up l k) else decide (k = i) := by
 obtain ⟨_, hu, _⟩ := h.par h0 hk
 obtain ⟨k', rfl⟩ : ∃ k', k = k' + 1 := ⟨k - 1, by omega⟩
 unfold za5
 rw [show abv l (k' + 1) i (k' + 1) = if i < k' + 1 then abv l k' i (up l (k' + 1)) else decide (k' + 1 = i) from rfl]
 rw [yir h i (up l (k' + 1)) (by omega) k' (by omega)]
theorem zho (h : MayT l) (i : Nat) : ∀ k, k < l.length → za5 l i k = true → i ≤ k := by
 intro k
 induction k using Nat.strongRecOn with
 | _ k ih =>
  intro hk ha
  by_cases h0 : k = 0
  ·
   subst h0; rw [zb4, decide_eq_true_iff] at ha; omega
  ·
   obtain ⟨_, hu, _⟩ := h.par (Nat.pos_of_ne_zero h0) hk
   rw [zqv h i (Nat.pos_of_ne_zero h0) hk] at ha
   split at ha
   ·
    have := ih _ hu (by omega) ha; omega
   ·
    rw [decide_eq_true_iff] at ha; omega
theorem zb7 (h : MayT l) (i : Nat) {k : Nat} (h0 : 0 < k) (hk : k < l.length) : za5 l i k = true ↔ i = k ∨ za5 l i (up l k) = true := by
 obtain ⟨_, hu, _⟩ := h.par h0 hk
 rw [zqv h i h0 hk]
 constructor
 ·
  intro ha
  split at ha
  ·
   exact .inr ha
  ·
   rw [decide_eq_true_iff] at ha; exact .inl ha.symm
 ·
  rintro (rfl | ha)
  ·
   rw [if_neg (by omega), decide_eq_true_iff]
  ·
   have := zho h i _ (by omega) ha
   rw [if_pos (by omega)]; exact ha
theorem zel (h : MayT l) {k : Nat} (hk : k < l.length) : za5 l k k = true := by
 by_cases h0 : k = 0
 ·
  subst h0; rw [zb4]; rfl
 ·
  rw [zb7 h k (Nat.pos_of_ne_zero h0) hk]; exact .inl rfl
theorem zr4 (h : MayT l) : ∀ k, k < l.length → za5 l 0 k = true := by
 intro k
 induction k using Nat.strongRecOn with
 | _ k ih =>
  intro hk
  by_cases h0 : k = 0
  ·
   subst h0; rw [zb4]; rfl
  ·
   obtain ⟨_, hu, _⟩ := h.par (Nat.pos_of_ne_zero h0) hk
   rw [zb7 h 0 (Nat.pos_of_ne_zero h0) hk]
   exact .inr (ih _ hu (by omega))
theorem zt1 (h : MayT l) {a b : Nat} (hab : za5 l a b = true) : ∀ c, c < l.length → za5 l b c = true → za5 l a c = true := by
 intro c
 induction c using Nat.strongRecOn with
 | _ c ih =>
  intro hc hbc
  by_cases h0 : c = 0
  ·
   subst h0
   rw [zb4, decide_eq_true_iff] at hbc
   subst hbc; exact hab
  ·
   obtain ⟨_, hu, _⟩ := h.par (Nat.pos_of_ne_zero h0) hc
   rcases (zb7 h b (Nat.pos_of_ne_zero h0) hc).1 hbc with rfl | hb
   ·
    exact hab
   ·
    exact (zb7 h a (Nat.pos_of_ne_zero h0) hc).2 (.inr (ih _ hu (by omega) hb))
theorem z3s (h : MayT l) {a c : Nat} : ∀ b, b < l.length → za5 l a b = true → za5 l c b = true → za5 l a c = true ∨ za5 l c a = true := by
 intro b
 induction b using Nat.strongRecOn with
 | _ b ih =>
  intro hb ha hc
  by_cases h0 : b = 0
  ·
   subst h0
   rw [zb4, decide_eq_true_iff] at ha hc
   subst ha hc
   exact .inl (by rw [zb4]; rfl)
  ·
   obtain ⟨_, hu, _⟩ := h.par (Nat.pos_of_ne_zero h0) hb
   rcases (zb7 h a (Nat.pos_of_ne_zero h0) hb).1 ha with rfl | ha'
   ·
    exact .inr hc
   ·
    rcases (zb7 h c (Nat.pos_of_ne_zero h0) hb).1 hc with rfl | hc'
    ·
     exact .inl ha
    ·
     exact ih _ hu (by omega) ha' hc'
theorem ybi (h : MayT l) {a : Nat} : ∀ b, b < l.length → za5 l a b = true → sl l a ≤ sl l b := by
 intro b
 induction b using Nat.strongRecOn with
 | _ b ih =>
  intro hb ha
  by_cases h0 : b = 0
  ·
   subst h0
   rw [zb4, decide_eq_true_iff] at ha
   subst ha; exact Nat.le_refl _
  ·
   obtain ⟨_, hu, hs⟩ := h.par (Nat.pos_of_ne_zero h0) hb
   rcases (zb7 h a (Nat.pos_of_ne_zero h0) hb).1 ha with rfl | ha'
   ·
    exact Nat.le_refl _
   ·
    have := ih _ hu (by omega) ha'; omega
def atF (l : List Nd) (s : Nat) : Nat → Nat → Int
 | 0, i => if sl l i ≤ s then i else -1
 | f + 1, i => if sl l i ≤ s then i else if i = 0 then -1 else atF l s f (up l i)
def atT (l : List Nd) (i s : Nat) : Int := atF l s i i
theorem yj4 (h : MayT l) (s : Nat) : ∀ (k : Nat), k < l.length → ∀ f, k ≤ f → atF l s f k = atF l s k k := by
 intro k
 induction k using Nat.strongRecOn with
 | _ k ih =>
  intro hk f hf
  by_cases h0 : k = 0
  ·
   subst h0
   cases f with
   | zero => rfl
   | succ f => simp [atF]
  ·
   obtain ⟨_, hu, _⟩ := h.par (Nat.pos_of_ne_zero h0) hk
   obtain ⟨f', rfl⟩ : ∃ f', f = f' + 1 := ⟨f - 1, by omega⟩
   obtain ⟨k', hk'⟩ : ∃ k', k = k' + 1 := ⟨k - 1, by omega⟩
   have e1 := ih (up l k) hu (by omega) f' (by omega)
   have e2 := ih (up l k) hu (by omega) k' (by omega)
   rw [show atF l s k k = atF l s (k' + 1) k by rw [← hk']]
   simp only [atF]
   rw [e1, e2]
theorem z8i (h : MayT l) (s : Nat) {k : Nat} (h0 : 0 < k) (hk : k < l.length) : atT l k s = if sl l k ≤ s then (k : Int) else atT l (up l k) s := by
 obtain ⟨_, hu, _⟩ := h.par h0 hk
 obtain ⟨k', rfl⟩ : ∃ k', k = k' + 1 := ⟨k - 1, by omega⟩
 unfold atT
 rw [show atF l s (k' + 1) (k' + 1) = if sl l (k' + 1) ≤ s then ((k' + 1 : Nat) : Int) else if k' + 1 = 0 then -1 else atF l s k' (up l (k' + 1)) from rfl]
 rw [if_neg (show ¬ k' + 1 = 0 by omega), yj4 h s (up l (k' + 1)) (by omega) k' (by omega)]
theorem zw9 (s : Nat) : atT l 0 s = if sl l 0 ≤ s then (0 : Int) else -1 := rfl
theorem yff (h : MayT l) (s : Nat) : ∀ i, i < l.length → (atT l i s = -1 ∧ ∀ k, za5 l k i = true → s < sl l k) ∨ ∃ n : Nat, atT l i s = n ∧ n < l.length ∧ za5 l n i = true ∧ sl l n ≤ s ∧ ∀ k, za5 l k i = true → sl l k ≤ s → za5 l k n = true := by
 intro i
 induction i using Nat.strongRecOn with
 | _ i ih =>
  intro hi
  by_cases hs : sl l i ≤ s
  ·
   refine .inr ⟨i, ?_, hi, zel h hi, hs, fun k hk _ => hk⟩
   by_cases h0 : i = 0
   ·
    subst h0; rw [zw9, if_pos hs]; rfl
   ·
    rw [z8i h s (Nat.pos_of_ne_zero h0) hi, if_pos hs]
  ·
   by_cases h0 : i = 0
   ·
    subst h0
    refine .inl ⟨by rw [zw9, if_neg hs], fun k hk => ?_⟩
    rw [zb4, decide_eq_true_iff] at hk
    subst hk; omega
   ·
    obtain ⟨_, hu, _⟩ := h.par (Nat.pos_of_ne_zero h0) hi
    rw [z8i h s (Nat.pos_of_ne_zero h0) hi, if_neg hs]
    rcases ih _ hu (by omega) with ⟨e, hn⟩ | ⟨n, e, hn, ha, hsn, hall⟩
    ·
     refine .inl ⟨e, fun k hk => ?_⟩
     rcases (zb7 h k (Nat.pos_of_ne_zero h0) hi).1 hk with rfl | hk'
     ·
      omega
     ·
      exact hn k hk'
    ·
     refine .inr ⟨n, e, hn, (zb7 h n (Nat.pos_of_ne_zero h0) hi).2 (.inr ha), hsn, fun k hk hks => ?_⟩
     rcases (zb7 h k (Nat.pos_of_ne_zero h0) hi).1 hk with rfl | hk'
     ·
      omega
     ·
      exact hall k hk' hks
end
section
open Go.RowKit
def neL (x : Nd) : List Value := (rc x.root).toList ++ ([.int .i64 x.parent] ++ ([num x.slot] ++ ([num x.just])))
def ne (x : Nd) : Array Value := (neL x).toArray
theorem zpt (x : Nd) : (ne x).toList = neL x := rfl
theorem ynx (x : Nd) : (neL x).length = 35 := by simp [neL, zar]
theorem zow (x : Nd) : (ne x).size = 35 := by rw [← Array.length_toList, zpt, ynx]
theorem yoa (x : Nd) : ∀ v ∈ neL x, v.oneCell' = true := by
 intro v hv
 unfold neL at hv
 simp only [List.mem_append, List.mem_singleton] at hv
 rcases hv with hv | rfl | rfl | rfl
 ·
  exact zg9 _ v hv
 ·
  rfl
 ·
  rfl
 ·
  rfl
@[go_sem] theorem yyv (x : Nd) : okA 35 (.agg (ne x)) = true := by
 show ((ne x).size == 35 && (ne x).all (·.oneCell')) = true
 rw [show (ne x).all (·.oneCell') = true from zf1 (yoa x), zow]; rfl
def zne : Nd := ⟨zr, 0, 0, 0⟩
theorem z4m (w : World) : (zeroValue 57).run Tryz.prog w = .ok (.agg (ne zne)) w := by kernel_rfl
@[go_sem ↓] theorem yyj (ρ : Operand → Value) (dst : Option Tmp) (x : Operand) (ty : TypeId) (pos : String) (after : Array Edge) (guard : Option (Nat × Bool)) (w : World) :
  (execOp ρ { dst, op := .load 57 x, type := ty, pos, after, guard }).run Tryz.prog w = zje (ldA w (ρ x) 35) w (zbe Tryz.prog ρ { dst, op := .load 57 x, type := ty, pos, after, guard } w) :=
 zbp Tryz.isAgg57 Tryz.sizeOf57 ρ dst x ty pos after guard w
@[go_sem ↓] theorem yws (ρ : Operand → Value) (dst : Option Tmp) (x y : Operand) (ty : TypeId) (pos : String) (after : Array Edge) (guard : Option (Nat × Bool)) (w : World) :
  (execOp ρ { dst, op := .store 57 x y, type := ty, pos, after, guard }).run Tryz.prog w = zjf (wrA w (ρ x) 35 && okA 35 (ρ y)) (stA w (ρ x) (ρ y)) (zbe Tryz.prog ρ { dst, op := .store 57 x y, type := ty, pos, after, guard } w) :=
 zbh Tryz.sizeOf57 ρ dst x y ty pos after guard w
@[go_sem ↓] theorem ywv (ρ : Operand → Value) (dst : Option Tmp) (ty : TypeId) (pos : String) (after : Array Edge) (guard : Option (Nat × Bool)) (w : World) :
  (execOp ρ { dst, op := .alloc 57, type := ty, pos, after, guard }).run Tryz.prog w = .ok (.value (.pointer (some ⟨w.heap.size, 0, none⟩))) (w.alloc (.cells (ne zne) 57)) := by
 unfold execOp
 simp only [Instr.alloc, Sem.run_bind, z4m, Result.andThen_ok]
 rfl
def places_ne : List (Nat × Nat) := [(0, 32), (32, 1), (33, 1), (34, 1)]
theorem yhq : ∀ w : World, ((Tryz.prog.fieldsOf 57).mapM (m := Sem) fun f => do pure (f.offset, ← Go.sizeOf f.type)).run Tryz.prog w = .ok places_ne.toArray w := fun _ => by kernel_rfl
theorem zi4 : Tryz.prog.underlying 57 = some (.struct (Tryz.prog.fieldsOf 57)) := by kernel_rfl
theorem zro : (Tryz.prog.fieldsOf 57).toList.map (fun f => (f.name, f.type, f.offset)) = [("Root", 23, 0), ("Parent", 3, 32), ("Slot", 30, 33), ("Just", 30, 34)] := by kernel_rfl
@[go_sem ↓] theorem ywm (ρ : Operand → Value) (dst : Option Tmp) (p : Nat × Operand) (ps : List (Nat × Operand)) (ty : TypeId) (pos : String) (after : Array Edge) (guard : Option (Nat × Bool)) (w : World) :
  (execOp ρ { dst, op := .build 57 (p :: ps).toArray, type := ty, pos, after, guard }).run Tryz.prog w = zhu ((zi1 places_ne (ne zne) ((p.1, ρ p.2) :: ps.map fun p => (p.1, ρ p.2))).map .agg) w (zbe Tryz.prog ρ { dst, op := .build 57 (p :: ps).toArray, type := ty, pos, after, guard } w) :=
 zcb z4m zi4 yhq ρ dst (p :: ps).toArray ty pos after guard w
attribute [go_sem] places_ne zow
theorem zgu (x : Nd) : neL x = ([]) ++ ((rc x.root).toList ++ ([.int .i64 x.parent] ++ ([num x.slot] ++ ([num x.just])))) ∧ ([] : List Value).length = 0 := by
 constructor
 ·
  unfold neL; simp
 ·
  rfl
theorem zss (x : Nd) : (ne x).extract 0 (0 + 32) = rc x.root := zcx (zgu x).1 (zgu x).2 (zar _)
theorem zv8 {w : World} {b off : Nat} {x : Nd} (h : w.rangeAt b off (neL x)) : ldA w (.pointer (some ⟨b, off + 0, none⟩)) 32 = some (rc x.root) := zc3 h (zgu x).1 (zgu x).2 (zar _)
theorem zly {w : World} {g : Nat} {t : TypeId} {fr : Nat × Nat} {x : Nd} (h : w.heap[g]? = some (.cells (ne x) t fr)) : ldA w (.pointer (some ⟨g, 0, none⟩)) 32 = some (rc x.root) := by have := zv8 (x := x) (zai h); rwa [Nat.zero_add] at this
@[go_sem] theorem yrs (w : World) (t : TypeId) (b : Nat) (x : Nd) (hb : b = w.heap.size) : ldA (w.alloc (.cells (ne x) t)) (.pointer (some ⟨b, 0, none⟩)) 32 = some (rc x.root) := by subst hb; exact zly (heap_alloc_last w _)
theorem z3w (x : Nd) (y : Rt) : zax (ne x) 0 (rc y) = ne { x with root := y } := by
 rw [za0 (c := ne x) (zgu x).1 (zgu x).2 (by simp [zar])]
 simp [ne, neL]
theorem zei (x : Nd) : neL x = ((rc x.root).toList) ++ ([.int .i64 x.parent] ++ ([num x.slot] ++ ([num x.just]))) ∧ ((rc x.root).toList : List Value).length = 32 := by
 constructor
 ·
  unfold neL; simp
 ·
  simp [zar]
theorem zgl (x : Nd) : (ne x)[32]? = some (.int .i64 x.parent) := zh9 (zei x).1 (zei x).2
@[go_sem] theorem yo8 (x : Nd) (h : 32 < (ne x).size) : (ne x)[32]'h = .int .i64 x.parent := by have := zgl x; rw [Array.getElem?_eq_getElem h] at this; exact Option.some.inj this
theorem zqc {w : World} {b off : Nat} {x : Nd} (h : w.rangeAt b off (neL x)) : w.cell? ⟨b, off + 32, none⟩ = some (.int .i64 x.parent) := zbj h (zei x).1 (zei x).2
theorem zza {w : World} {g : Nat} {t : TypeId} {fr : Nat × Nat} {x : Nd} (h : w.heap[g]? = some (.cells (ne x) t fr)) : w.cell? ⟨g, 32, none⟩ = some (.int .i64 x.parent) := by have := zqc (x := x) (zai h); rwa [Nat.zero_add] at this
theorem znj (x : Nd) (y : Int) : zax (ne x) 32 #[.int .i64 y] = ne { x with parent := y } := by
 rw [za0 (c := ne x) (r := #[.int .i64 y]) (zei x).1 (zei x).2 rfl]
 simp [ne, neL]
theorem zgm (x : Nd) : neL x = ((rc x.root).toList ++ [.int .i64 x.parent]) ++ ([num x.slot] ++ ([num x.just])) ∧ ((rc x.root).toList ++ [.int .i64 x.parent] : List Value).length = 33 := by
 constructor
 ·
  unfold neL; simp
 ·
  simp [zar]
theorem zsz (x : Nd) : (ne x)[33]? = some (num x.slot) := zh9 (zgm x).1 (zgm x).2
theorem zvz {w : World} {b off : Nat} {x : Nd} (h : w.rangeAt b off (neL x)) : w.cell? ⟨b, off + 33, none⟩ = some (num x.slot) := zbj h (zgm x).1 (zgm x).2
theorem z24 {w : World} {g : Nat} {t : TypeId} {fr : Nat × Nat} {x : Nd} (h : w.heap[g]? = some (.cells (ne x) t fr)) : w.cell? ⟨g, 33, none⟩ = some (num x.slot) := by have := zvz (x := x) (zai h); rwa [Nat.zero_add] at this
theorem zsr (x : Nd) (y : UInt64) : zax (ne x) 33 #[num y] = ne { x with slot := y } := by
 rw [za0 (c := ne x) (r := #[num y]) (zgm x).1 (zgm x).2 rfl]
 simp [ne, neL]
theorem zgr (x : Nd) : neL x = ((rc x.root).toList ++ [.int .i64 x.parent] ++ [num x.slot]) ++ ([num x.just] ++ ([])) ∧ ((rc x.root).toList ++ [.int .i64 x.parent] ++ [num x.slot] : List Value).length = 34 := by
 constructor
 ·
  unfold neL; simp
 ·
  simp [zar]
theorem zt4 (x : Nd) : (ne x)[34]? = some (num x.just) := zh9 (zgr x).1 (zgr x).2
theorem z9y {w : World} {b off : Nat} {x : Nd} (h : w.rangeAt b off (neL x)) : w.cell? ⟨b, off + 34, none⟩ = some (num x.just) := zbj h (zgr x).1 (zgr x).2
theorem z40 {w : World} {g : Nat} {t : TypeId} {fr : Nat × Nat} {x : Nd} (h : w.heap[g]? = some (.cells (ne x) t fr)) : w.cell? ⟨g, 34, none⟩ = some (num x.just) := by have := z9y (x := x) (zai h); rwa [Nat.zero_add] at this
theorem zrs (x : Nd) (y : UInt64) : zax (ne x) 34 #[num y] = ne { x with just := y } := by
 rw [za0 (c := ne x) (r := #[num y]) (zgr x).1 (zgr x).2 rfl]
 simp [ne, neL]
@[go_sem] theorem zx9 (x : Nd) (y : Int) : (ne x).setIfInBounds 32 (.int .i64 y) = ne { x with parent := y } := by
 rw [za9 (by rw [zow]; decide)]; exact znj x y
attribute [go_sem] z3w znj zsr zrs
@[go_sem] theorem yoz (x : Nd) (y : UInt64) : zax (ne x) 33 #[.int .u64 (y.toNat : Int)] = ne { x with slot := y } := zsr x y
@[go_sem] theorem ypa (x : Nd) (y : UInt64) : zax (ne x) 34 #[.int .u64 (y.toNat : Int)] = ne { x with just := y } := zrs x y
theorem yt3 (d : Nat) (x y : Nd) (w : World) : (Op.equalIn (d + 3) 57 (.agg (ne x)) (.agg (ne y))).run Tryz.prog w = .ok (decide (x = y)) w := by
 rw [show d + 3 = (d + 2) + 1 from rfl, run_equalIn_struct w (d + 2) _ _ _ zi4 (by kernel_rfl)]
 rw [zcq zro (by decide) (zz6 _ _ _ (zss x) w) (zz6 _ _ _ (zss y) w) (yku (d + 0) _ _ w)
  (fun _ h1 => zcq h1 (by decide) (yit _ _ _ (zgl x) w) (yit _ _ _ (zgl y) w) (ytn (d + 1) _ _ w)
  (fun _ h2 => zcq h2 (by decide) (zqm _ _ _ (zsz x) w) (zqm _ _ _ (zsz y) w) (ya9 (d + 1) _ _ w)
  (fun _ h3 => zcq h3 (by decide) (zqm _ _ _ (zt4 x) w) (zqm _ _ _ (zt4 y) w) (ya9 (d + 1) _ _ w)
  (fun _ hn => zuc hn))))]
 congr 1
 rw [Bool.eq_iff_iff]
 simp only [Bool.and_eq_true, decide_eq_true_iff, and_true]
 exact ⟨fun h => Nd.ext h.1 h.2.1 h.2.2.1 h.2.2.2, fun h => by subst h; exact ⟨rfl, rfl, rfl, rfl⟩⟩
@[go_sem ↓] theorem yy9 (x y : Nd) (w : World) : (Op.equalIn 10000 57 (.agg (ne x)) (.agg (ne y))).run Tryz.prog w = .ok (decide (x = y)) w := yt3 9997 x y w
theorem zvc : Tryz.prog.cellsOf 57 = 35 := by kernel_rfl
section
open Go.WideShapes Go.ChangeShapes
variable {H : Type} {enc : TypeId × Value → H} {w : World} {base : Nat} {sp : Nat → Bool} {held : Bool}
theorem ymb {fuel : Nat} {cs : List Value} {x : DataW H × List MemPlace} (hl : cs.length = 35) (h : DataW.trod enc Tryz.prog w base sp held fuel 57 cs = some x) : ∃ a : Nd, cs = neL a := by
 obtain ⟨_, _, h0⟩ := zaw (i := 0) zi4 zro rfl h
 rw [zc7] at h0
 obtain ⟨a0, e0⟩ := zek h0
 obtain ⟨_, _, h1⟩ := zaw (i := 1) zi4 zro rfl h
 rw [zl4] at h1
 obtain ⟨a1, e1⟩ := zsf h1
 obtain ⟨_, _, h2⟩ := zaw (i := 2) zi4 zro rfl h
 rw [zb9] at h2
 obtain ⟨a2, e2⟩ := zdh h2
 obtain ⟨_, _, h3⟩ := zaw (i := 3) zi4 zro rfl h
 rw [zb9] at h3
 obtain ⟨a3, e3⟩ := zdh h3
 refine ⟨⟨a0, a1, a2, a3⟩, ?_⟩
 unfold neL
 have j0 := zbc cs 0 32
 rw [e0] at j0
 have j1 := zbc cs 32 1
 rw [e1] at j1
 have j2 := zbc cs 33 1
 rw [e2] at j2
 have j3 := zbc cs 34 1
 rw [e3] at j3
 have jl : cs.drop 35 = [] := List.drop_of_length_le (by omega)
 rw [show (34 + 1) = 35 from rfl, jl, List.append_nil] at j3
 rw [← List.drop_zero (l := cs)]
 rw [← j0]
 rw [show cs.drop (0 + 32) = cs.drop 32 from rfl, ← j1]
 rw [show cs.drop (32 + 1) = cs.drop 33 from rfl, ← j2]
 rw [show cs.drop (33 + 1) = cs.drop 34 from rfl, ← j3]
 try rfl
end
def Ene : Lie Nd := ⟨57, 35, neL, by decide, ynx, yoa⟩
attribute [irreducible] ne
end
section
open Go.RowKit
theorem ysu : (Tryz.prog.info? 57).map (fun i => (i.zero, i.size, i.bytes)) = some (some (.agg (ne zne)), 35, 56) := by kernel_rfl
@[go_sem ↓] theorem ynf (ρ : Operand → Value) (dst : Option Tmp) (x : Operand) (ty : TypeId) (pos : String) (after : Array Edge) (guard : Option (Nat × Bool)) (w : World) (hx : okA 35 (ρ x) = true) :
  (execOp ρ { dst, op := .buildSlice 26 1 #[(0, x)], type := ty, pos, after, guard }).run Tryz.prog w = .ok (.value (.slice (some ⟨w.heap.size, 0, none⟩) 1 1)) (w.alloc (.cells (zfz (ρ x)) 57)) := by
 obtain ⟨c, hc, hn⟩ : ∃ c, ρ x = .agg c ∧ c.size = 35 := by
  unfold okA at hx
  split at hx
  ·
   rename_i c hc
   rw [Bool.and_eq_true, beq_iff_eq] at hx
   exact ⟨c, hc, hx.1⟩
  ·
   cases hx
 have hp : (1 * 35 > 2 ^ 24) = False := by simp
 have h0 : (1 * 35 = 0) = False := by simp
 unfold execOp
 simp only [Instr.buildSlice, Sem.run_bind, run_underlying Tryz.underlying26, Result.andThen_ok, Tryz.sizeOf57, hp, h0, if_false, z4m, Value.cells]
 simp only [List.map_toArray, List.map_cons, List.map_nil, hc, Instr.fill, Value.cells, hn, Nat.zero_mul]
 simp [zfz]
 rw [zj6 _ c (by simp [hn])]
 rfl
section
open Go.WideShapes Go.ChangeShapes
variable {H : Type} {enc : TypeId × Value → H} {w : World} {base : Nat} {sp : Nat → Bool} {held : Bool}
theorem ymn {fuel : Nat} {v : Value} {x : DataW H × List MemPlace} (h : DataW.trod enc Tryz.prog w base sp held fuel 26 [v] = some x) : ∃ l : List Nd, SlE Ene w v l :=
 zmd Tryz.underlying26 zvc (fun _ cs _ h => ymb (by obtain ⟨_, _, _, _, hl, _⟩ := DataW.trod_struct zi4 h; rw [hl, zvc]) h) h
theorem yc6 {fuel : Nat} {cs : List Value} {x : DataW H × List MemPlace} (h : DataW.trod enc Tryz.prog w base sp held fuel 26 cs = some x) : ∃ s : SlV, cs = [sv s] ∧ ∃ l : List Nd, SlE Ene w (sv s) l := by
 rcases Deep.open_slice Tryz.underlying26 h with ⟨h1, _⟩ | ⟨a', len', cap', _, _, _, _, h1, _⟩
 ·
  subst h1
  exact ⟨⟨none, 0, 0⟩, rfl, [], zbt _ _ _ _⟩
 ·
  subst h1
  exact ⟨⟨some a', len', cap'⟩, rfl, ymn h⟩
end
end
end Go.Proofs.YtmihlihlpdkdcaaGreat
