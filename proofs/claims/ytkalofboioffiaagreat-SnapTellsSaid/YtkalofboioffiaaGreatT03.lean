import Derived.Test.YtkalofboioffiaaGreatT02
import Derived.Laws.Small
import Derived.Test.YtkalofboioffiaaGreatRows
import Derived.ChangeMaps5
import Derived.Sort.Grow
import Derived.ChangeKeysEq
import Derived.WideKeyArr2
namespace Go.Proofs.YtkalofboioffiaaGreat
open Go.RowKit
set_option maxRecDepth 200000
set_option maxHeartbeats 64000000
section
open Go.RowKit
def num (n : UInt64) : Value := .int .u64 (n.toNat : Int)
attribute [go_sem] num
theorem ymb {a b : UInt64} (h : num a = num b) : a = b := by
 simp only [num, Value.int.injEq, true_and] at h
 exact UInt64.toNat_inj.1 (by omega)
theorem ygi (a b : UInt64) : ((a.toNat : Int) == (b.toNat : Int)) = decide (a = b) := by
 rw [Bool.eq_iff_iff, decide_eq_true_iff, beq_iff_eq]
 constructor
 ·
  intro h; exact UInt64.toNat_inj.1 (by omega)
 ·
  intro h; rw [h]
theorem yap (n : Nat) (a b : UInt64) (w : World) : (Op.equalIn (n + 1) 27 (num a) (num b)).run Tryz.prog w = .ok (decide (a = b)) w := by
 unfold num
 rw [run_equalIn_int w n 27 .u64 .u64 _ _ Tryz.underlying27, ygi]
theorem yiq (n : Nat) (a b : Int) (w : World) : (Op.equalIn (n + 1) 3 (.int .i64 a) (.int .i64 b)).run Tryz.prog w = .ok (decide (a = b)) w := by
 rw [run_equalIn_int w n 3 .i64 .i64 _ _ Tryz.underlying3]
 rfl
theorem yip (n : Nat) (a b : Bool) (w : World) : (Op.equalIn (n + 1) 4 (.bool a) (.bool b)).run Tryz.prog w = .ok (decide (a = b)) w := by
 rw [run_equalIn_bool w n 4 _ _ Tryz.underlying4]
 cases a <;> cases b <;> rfl
theorem zua (c : Array Value) (o : Nat) (n : UInt64) (h : c[o]? = some (num n)) (w : World) : (part 27 c o).run Tryz.prog w = .ok (num n) w := zlw (P := Tryz.prog) Tryz.isAgg27 c o _ h w
theorem z66 (c : Array Value) (o : Nat) (n : Int) (h : c[o]? = some (.int .i64 n)) (w : World) : (part 3 c o).run Tryz.prog w = .ok (.int .i64 n) w := zlw (P := Tryz.prog) Tryz.isAgg3 c o _ h w
theorem ybs (c : Array Value) (o : Nat) (n : Bool) (h : c[o]? = some (.bool n)) (w : World) : (part 4 c o).run Tryz.prog w = .ok (.bool n) w := zlw (P := Tryz.prog) Tryz.isAgg4 c o _ h w
theorem zb9 : Tryz.prog.cellsOf 27 = 1 := by kernel_rfl
theorem zfz : Tryz.prog.cellsOf 3 = 1 := by kernel_rfl
theorem zvs : Tryz.prog.cellsOf 4 = 1 := by kernel_rfl
def Eint : Lie Int := ⟨3, 1, fun n => [.int .i64 n], by decide, fun _ => rfl, fun _ u h => by rw [List.mem_singleton.1 h]; rfl⟩
def Enum : Lie UInt64 := ⟨27, 1, fun n => [num n], by decide, fun _ => rfl, fun _ u h => by rw [List.mem_singleton.1 h]; rfl⟩
section
open Go.WideShapes Go.ChangeShapes
variable {H : Type} {enc : TypeId × Value → H} {w : World} {base : Nat} {sp : Nat → Bool} {held : Bool}
theorem zcy {fuel : Nat} {cs : List Value} {x : DataW H × List MemPlace} (h : DataW.trod enc Tryz.prog w base sp held fuel 27 cs = some x) : ∃ n : UInt64, cs = [num n] := by
 obtain ⟨n, e1, _, e3⟩ := DataW.trod_int Tryz.underlying27 h
 have hb : (decide (IntKind.u64.min ≤ n) && decide (n ≤ IntKind.u64.max)) = true := e3
 rw [Bool.and_eq_true, decide_eq_true_eq, decide_eq_true_eq, show IntKind.u64.min = 0 from rfl, show IntKind.u64.max = 18446744073709551615 from rfl] at hb
 refine ⟨UInt64.ofNat n.toNat, ?_⟩
 rw [e1, num, UInt64.toNat_ofNat', Nat.mod_eq_of_lt (by simp; omega)]
 congr 2
 omega
theorem zis {fuel : Nat} {cs : List Value} {x : DataW H × List MemPlace} (h : DataW.trod enc Tryz.prog w base sp held fuel 3 cs = some x) : ∃ n : Int, cs = [.int .i64 n] := by
 obtain ⟨n, e1, _, _⟩ := DataW.trod_int Tryz.underlying3 h
 exact ⟨n, e1⟩
theorem z4a {fuel : Nat} {cs : List Value} {x : DataW H × List MemPlace} (h : DataW.trod enc Tryz.prog w base sp held fuel 4 cs = some x) : ∃ n : Bool, cs = [.bool n] := by
 obtain ⟨n, e1, _⟩ := DataW.trod_bool Tryz.underlying4 h
 exact ⟨n, e1⟩
end
end
abbrev Rt := Vector UInt8 32
def rc (r : Rt) : Array Value := r.toArray.map fun b => .int .u8 (b.toNat : Int)
def at8 (r : Rt) (k : Nat) : Int := ((r.toList.getD k 0).toNat : Int)
theorem zay (r : Rt) : (rc r).size = 32 := by simp [rc]
theorem z7f (r : Rt) (k : Nat) (h : k < 32) : (rc r)[k]? = some (.int .u8 (at8 r k)) := by
 simp [rc, at8, h]
@[go_sem] theorem zqh (r : Rt) (k : Nat) (h : k < (rc r).size) : (rc r)[k] = .int .u8 (at8 r k) := by
 have h' : k < 32 := by rw [zay] at h; exact h
 have := z7f r k h'
 rw [Array.getElem?_eq_getElem h] at this
 exact Option.some.inj this
theorem yh4 (r : Rt) (k : Nat) : 0 ≤ at8 r k ∧ at8 r k < 256 := by
 unfold at8
 have := (r.toList.getD k 0).toNat_lt
 omega
theorem yd2 {a b : Rt} (h : rc a = rc b) : a = b := by
 unfold rc at h
 have hi : Function.Injective (fun b : UInt8 => Value.int .u8 (b.toNat : Int)) := by
  intro x y hxy
  simp only [Value.int.injEq, true_and] at hxy
  exact UInt8.toNat_inj.1 (by omega)
 have := (Array.map_inj_right (f := fun b : UInt8 => Value.int .u8 (b.toNat : Int)) (fun x y h => hi h)).1 h
 exact Vector.toArray_inj.1 this
theorem yd3 (r : Rt) : (rc r).all (·.oneCell') = true := by
 rw [Array.all_eq_true_iff_forall_mem]
 intro v hv
 obtain ⟨b, _, rfl⟩ := Array.mem_map.1 hv
 rfl
def zg2 : List UInt8 → List UInt8 → Bool
 | x :: xs, y :: ys => if x = y then zg2 xs ys else decide (x < y)
 | _, _ => false
def zbh (a b : Rt) : Bool := zg2 a.toList b.toList
theorem zkx : ∀ l, zg2 l l = false
 | [] => rfl
 | x :: xs => by simp [zg2, zkx xs]
theorem znh : ∀ a b c, zg2 a b = true → zg2 b c = true → zg2 a c = true
 | [], _, _, h, _ => by simp [zg2] at h
 | _ :: _, [], _, h, _ => by simp [zg2] at h
 | _ :: _, _ :: _, [], _, h => by simp [zg2] at h
 | x :: xs, y :: ys, z :: zs, h, k => by
  unfold zg2 at h k ⊢
  by_cases e : x = y
  ·
   subst e
   by_cases f : x = z
   ·
    subst f; simp at h k ⊢; exact znh xs ys zs h k
   ·
    rw [if_neg f] at k ⊢; exact k
  ·
   rw [if_neg e] at h
   by_cases f : y = z
   ·
    subst f; rw [if_neg e]; exact h
   ·
    rw [if_neg f] at k
    have h' : x < y := by simpa using h
    have k' : y < z := by simpa using k
    have hk := UInt8.lt_trans h' k'
    rw [if_neg (fun g => by subst g; exact absurd hk (UInt8.lt_irrefl _))]
    simpa using hk
theorem ztt : ∀ a b, a.length = b.length → zg2 a b = false → zg2 b a = false → a = b
 | [], [], _, _, _ => rfl
 | [], _ :: _, h, _, _ => by simp at h
 | _ :: _, [], h, _, _ => by simp at h
 | x :: xs, y :: ys, hl, h, k => by
  unfold zg2 at h k
  by_cases e : x = y
  ·
   subst e; simp at h k; rw [ztt xs ys (by simpa using hl) h k]
  ·
   rw [if_neg e] at h; rw [if_neg (Ne.symm e)] at k
   simp at h k
   exact absurd (UInt8.le_antisymm k h) e
theorem ztu (a : Rt) : zbh a a = false := zkx _
theorem zwe {a b c : Rt} (h : zbh a b = true) (k : zbh b c = true) : zbh a c = true := znh _ _ _ h k
theorem z5x {a b : Rt} (h : zbh a b = false) (k : zbh b a = false) : a = b := by
 have := ztt a.toList b.toList (by simp) h k
 exact Vector.toList_inj.1 this
theorem zia (l : List UInt8) {k : Nat} (h : k < l.length) : l.getD k 0 = l[k] := by simp [h]
def zec (a b : Rt) (k : Nat) : Bool := zg2 (a.toList.drop k) (b.toList.drop k)
theorem zkw (a b : Rt) : zec a b 32 = false := by
 unfold zec
 rw [List.drop_of_length_le (by simp)]
 rfl
theorem zi6 (a b : Rt) (k : Nat) (hk : k < 32) (h : at8 a k = at8 b k) : zec a b k = zec a b (k + 1) := by
 unfold zec
 have ha : k < a.toList.length := by simp; omega
 have hb : k < b.toList.length := by simp; omega
 have e : a.toList[k] = b.toList[k] := by
  have h' : (a.toList.getD k 0).toNat = (b.toList.getD k 0).toNat := by unfold at8 at h; omega
  rw [zia _ ha, zia _ hb] at h'
  exact UInt8.toNat_inj.1 h'
 rw [List.drop_eq_getElem_cons ha, List.drop_eq_getElem_cons hb, zg2, if_pos e]
theorem zh0 (a b : Rt) (k : Nat) (hk : k < 32) (h : at8 a k ≠ at8 b k) : zec a b k = decide (at8 a k < at8 b k) := by
 unfold zec
 have ha : k < a.toList.length := by simp; omega
 have hb : k < b.toList.length := by simp; omega
 unfold at8 at h ⊢
 rw [zia _ ha, zia _ hb] at h ⊢
 rw [List.drop_eq_getElem_cons ha, List.drop_eq_getElem_cons hb, zg2, if_neg (fun g => h (by rw [g]))]
 rw [decide_eq_decide, UInt8.lt_iff_toNat_lt]
 omega
section
open Go.WideShapes Go.ChangeShapes
open Go.RowKit Go.WideShapes Go.ChangeShapes
def eqB (a b : Rt) : Bool := decide (a = b)
theorem yem {a b : Rt} (h : ∀ i, i < 32 → at8 a i = at8 b i) : a = b := by
 apply Vector.toList_inj.1
 apply List.ext_getElem (by simp)
 intro i h1 h2
 have := h i (by simpa using h1)
 unfold at8 at this
 rw [zia _ h1, zia _ h2] at this
 exact UInt8.toNat_inj.1 (by omega)
theorem z40 (a b : Rt) : ((List.range 32).all fun i => at8 a i == at8 b i) = eqB a b := by
 unfold eqB
 rw [Bool.eq_iff_iff, List.all_eq_true, decide_eq_true_iff]
 constructor
 ·
  intro h
  exact yem fun i hi => by simpa using h i (List.mem_range.2 hi)
 ·
  rintro rfl i _
  simp
theorem z69 (a : Rt) (i : Nat) (hi : i < 32) (w : World) : (part 5 (rc a) i).run Tryz.prog w = .ok (.int .u8 (at8 a i)) w := by
 have h := z7f a i hi
 have a5 := Tryz.isAgg5
 unfold part
 go_simp
theorem zpo (n : Nat) (a b : Rt) (w : World) : ∀ is : List Nat, (∀ i ∈ is, i < 32) →
  (Op.eqItems (n + 1) 5 1 (rc a) (rc b) is).run Tryz.prog w = .ok (is.all fun i => at8 a i == at8 b i) w
 | [], _ => by simp [Op.eqItems]
 | i :: is, h => by
  have hi := h i (by simp)
  have ih := zpo n a b w is (fun j hj => h j (by simp [hj]))
  have u5 := Tryz.underlying5
  have e1 : (Op.equalIn (n + 1) 5 (.int .u8 (at8 a i)) (.int .u8 (at8 b i))).run Tryz.prog w = .ok (at8 a i == at8 b i) w := by
   rw [Op.equalIn]
   go_simp
  simp only [Op.eqItems, Nat.mul_one, Sem.run_bind, z69 a i hi, z69 b i hi, Result.andThen_ok, e1]
  by_cases e : at8 a i = at8 b i
  ·
   simp [e, ih]
  ·
   simp [e]
theorem z41 (n : Nat) (a b : Rt) (w : World) : (Op.equalIn (n + 2) 34 (.agg (rc a)) (.agg (rc b))).run Tryz.prog w = .ok (eqB a b) w := by
 obtain ⟨i, hi⟩ : ∃ i, Tryz.prog.info? 5 = some i := Option.isSome_iff_exists.1 (by kernel_rfl)
 rw [run_equalIn_array w (n + 1) (rc a) (rc b) Tryz.underlying34 hi]
 rw [show Tryz.prog.cellsOf 5 = 1 by kernel_rfl, zpo n a b w _ (fun i h => List.mem_range.1 h), z40]
@[go_sem] theorem ymn (a b : Rt) (w : World) : (Op.equalIn 10000 34 (.agg (rc a)) (.agg (rc b))).run Tryz.prog w = .ok (eqB a b) w := z41 9998 a b w
theorem zym (a : Rt) : eqB a a = true := by simp [eqB]
theorem zq2 (a b : Rt) : eqB a b = true ↔ a = b := by simp [eqB]
attribute [go_sem] zay
@[go_sem] theorem ymy (r : Rt) : okA 32 (.agg (rc r)) = true := by
 show ((rc r).size == 32 && (rc r).all (·.oneCell')) = true
 rw [yd3, zay]; rfl
@[go_sem ↓] theorem yjb (ρ : Operand → Value) (dst : Option Tmp) (x : Operand) (ty : TypeId) (pos : String) (after : Array Edge) (guard : Option (Nat × Bool)) (w : World) :
  (execOp ρ { dst, op := .load 34 x, type := ty, pos, after, guard }).run Tryz.prog w = zi5 (ldA w (ρ x) 32) w (zbf Tryz.prog ρ { dst, op := .load 34 x, type := ty, pos, after, guard } w) :=
 zbq Tryz.isAgg34 Tryz.sizeOf34 ρ dst x ty pos after guard w
@[go_sem ↓] theorem yhp (ρ : Operand → Value) (dst : Option Tmp) (x y : Operand) (ty : TypeId) (pos : String) (after : Array Edge) (guard : Option (Nat × Bool)) (w : World) :
  (execOp ρ { dst, op := .store 34 x y, type := ty, pos, after, guard }).run Tryz.prog w = zhv (wrA w (ρ x) 32 && okA 32 (ρ y)) (stA w (ρ x) (ρ y)) (zbf Tryz.prog ρ { dst, op := .store 34 x y, type := ty, pos, after, guard } w) :=
 zbe Tryz.sizeOf34 ρ dst x y ty pos after guard w
def zr : Rt := Vector.replicate 32 0
theorem ymf : rc zr = #[.int .u8 0, .int .u8 0, .int .u8 0, .int .u8 0, .int .u8 0, .int .u8 0, .int .u8 0, .int .u8 0, .int .u8 0, .int .u8 0, .int .u8 0, .int .u8 0, .int .u8 0, .int .u8 0, .int .u8 0, .int .u8 0, .int .u8 0, .int .u8 0, .int .u8 0, .int .u8 0, .int .u8 0, .int .u8 0, .int .u8 0, .int .u8 0, .int .u8 0, .int .u8 0, .int .u8 0, .int .u8 0, .int .u8 0, .int .u8 0, .int .u8 0, .int .u8 0] := by kernel_rfl
theorem zj0 (w : World) : (zeroValue 34).run Tryz.prog w = .ok (.agg (rc zr)) w := by
 rw [ymf]; exact Tryz.zeroValue34 w
@[go_sem ↓] theorem yhk (ρ : Operand → Value) (dst : Option Tmp) (ty : TypeId) (pos : String) (after : Array Edge) (guard : Option (Nat × Bool)) (w : World) :
  (execOp ρ { dst, op := .alloc 34, type := ty, pos, after, guard }).run Tryz.prog w = .ok (.value (.pointer (some ⟨w.heap.size, 0, none⟩))) (w.alloc (.cells (rc zr) 34)) := by
 unfold execOp
 simp only [Instr.alloc, Sem.run_bind, zj0, Result.andThen_ok]
 rfl
def ze4 : Value → Array Value
 | .agg c => c
 | _ => #[]
attribute [go_sem] ze4
theorem zgx (z c : Array Value) (h : c.size = z.size) : Array.foldl (fun cs (p : Value × Nat) => cs.setIfInBounds p.2 p.1) z c.zipIdx 0 c.size = c := by
 have e : Array.foldl (fun cs (p : Value × Nat) => cs.setIfInBounds p.2 p.1) z c.zipIdx 0 c.size = ((c.toList.zipIdx 0).foldl (fun c p => c.setIfInBounds p.2 p.1) z) := by
  have h2 : c.size = c.zipIdx.size := by simp
  rw [h2, ← Array.foldl_toList, Array.toList_zipIdx]
 rw [e]
 apply Array.ext_getElem?
 intro j
 rw [zgw]
 by_cases hj : j < c.size
 ·
  rw [if_pos (by simp; omega)]; simp
 ·
  rw [if_neg (by simp; omega), Array.getElem?_eq_none (by omega), Array.getElem?_eq_none (by omega)]
theorem arr_root : WideMaps.ArrKey Tryz.prog 34 5 32 := ⟨Tryz.underlying34, by kernel_rfl, by kernel_rfl, by kernel_rfl⟩
theorem zg5 (r : Rt) : ∀ u ∈ (rc r).toList, u.oneCell' = true := fun u h => (Array.all_eq_true_iff_forall_mem.1 (yd3 r)) u (by simpa using h)
section
variable {H : Type} {enc : TypeId × Value → H} {P : Program}
end
section
variable {H : Type} {enc : TypeId × Value → H} {w : World} {base : Nat} {sp : Nat → Bool} {held : Bool}
theorem zdr {fuel : Nat} {cs : List Value} {x : DataW H × List MemPlace} (h : DataW.trod enc Tryz.prog w base sp held fuel 34 cs = some x) : ∃ r : Rt, cs = (rc r).toList := by
 obtain ⟨xs, m, _, _, hl, hxl, hx⟩ := DataW.trod_array Tryz.underlying34 h
 rw [arr_root.size] at hl
 rw [arr_root.one] at hx
 have hc : ∀ i, i < 32 → ∃ n : Int, cs[i]? = some (.int .u8 n) ∧ 0 ≤ n ∧ n < 256 := fun i hi => by
  have h1 := hx i hi
  rw [List.getElem?_eq_getElem (by omega)] at h1
  obtain ⟨n, e1, _, e3⟩ := DataW.trod_int Tryz.underlying5 h1
  rw [Nat.mul_one, List.drop_eq_getElem_cons (by omega)] at e1
  have e4 : cs[i]'(by omega) = .int .u8 n := by
   rw [List.take_succ_cons, List.take_zero] at e1
   exact (List.cons.inj e1).1
  have hb : (decide (IntKind.u8.min ≤ n) && decide (n ≤ IntKind.u8.max)) = true := e3
  rw [Bool.and_eq_true, decide_eq_true_eq, decide_eq_true_eq, show IntKind.u8.min = 0 from rfl, show IntKind.u8.max = 255 from rfl] at hb
  exact ⟨n, by rw [List.getElem?_eq_getElem (by omega), e4], by omega, by omega⟩
 obtain ⟨f, hf⟩ := Deep.choose_lt hc
 refine ⟨Vector.ofFn fun i : Fin 32 => UInt8.ofNat (f i.val).toNat, ?_⟩
 apply List.ext_getElem?
 intro i
 by_cases hi : i < 32
 ·
  obtain ⟨h1, h2, h3⟩ := hf i hi
  rw [h1, Array.getElem?_toList, z7f _ i hi]
  unfold at8
  rw [zia _ (by simp; exact hi)]
  simp
  omega
 ·
  rw [List.getElem?_eq_none (by omega), List.getElem?_eq_none (by simp [zay]; omega)]
end
end
theorem yjj (r : Rt) : (rc r).toList.length = 32 := by rw [Array.length_toList, zay]
theorem z42 (n : Nat) (a b : Rt) (w : World) : (Op.equalIn (n + 2) 34 (.agg (rc a)) (.agg (rc b))).run Tryz.prog w = .ok (decide (a = b)) w := z41 n a b w
theorem zny (c : Array Value) (o : Nat) (r : Rt) (h : c.extract o (o + 32) = rc r) (w : World) : (part 34 c o).run Tryz.prog w = .ok (.agg (rc r)) w := by
 rw [zza (P := Tryz.prog) Tryz.isAgg34 Tryz.sizeOf34, h]
theorem zcr : Tryz.prog.cellsOf 34 = 32 := by kernel_rfl
def Ert : Lie Rt := ⟨34, 32, fun r => (rc r).toList, by decide, yjj, zg5⟩
structure SlV where
 p : Option Addr
 len : Nat
 cap : Nat
def sv (s : SlV) : Value := .slice s.p s.len s.cap
@[go_sem] theorem za0 (p : Option Addr) (n c : Nat) : sv ⟨p, n, c⟩ = .slice p n c := rfl
structure Nd where
 root : Rt
 parent : Int
 slot : UInt64
 just : UInt64
theorem Nd.ext {x y : Nd} (h0 : x.root = y.root) (h1 : x.parent = y.parent) (h2 : x.slot = y.slot) (h3 : x.just = y.just) : x = y := by cases x; cases y; simp_all
instance : DecidableEq Nd := fun x y => decidable_of_iff (x.root = y.root ∧ x.parent = y.parent ∧ x.slot = y.slot ∧ x.just = y.just) ⟨fun h => Nd.ext h.1 h.2.1 h.2.2.1 h.2.2.2, fun h => by subst h; exact ⟨rfl, rfl, rfl, rfl⟩⟩
def nd (l : List Nd) (i : Nat) : Nd := l.getD i ⟨zr, 0, 0, 0⟩
theorem zrj (l : List Nd) {i : Nat} (h : i < l.length) : nd l i = l[i] := by simp [nd, h]
def sl (l : List Nd) (i : Nat) : Nat := (nd l i).slot.toNat
def up (l : List Nd) (i : Nat) : Nat := (nd l i).parent.toNat
def zhw (l : List Nd) (i : Nat) : Prop :=
 sl l i ≤ 1099511627776 ∧ (i = 0 → (nd l i).parent = -1) ∧ (0 < i → 0 ≤ (nd l i).parent ∧ (nd l i).parent < i ∧ sl l (up l i) < sl l i) ∧ ∀ k, k < i → (nd l k).root ≠ (nd l i).root
instance (l : List Nd) (i : Nat) : Decidable (zhw l i) := by unfold zhw; exact inferInstance
def MayT (l : List Nd) : Prop := 1 ≤ l.length ∧ l.length ≤ 12 ∧ ∀ i, i < l.length → zhw l i
instance (l : List Nd) : Decidable (MayT l) := by unfold MayT; exact inferInstance
section
variable {l : List Nd}
theorem MayT.pos (h : MayT l) : 0 < l.length := h.1
theorem MayT.le (h : MayT l) : l.length ≤ 12 := h.2.1
theorem MayT.first (h : MayT l) : (nd l 0).parent = -1 := (h.2.2 0 h.pos).2.1 rfl
theorem MayT.par (h : MayT l) {k : Nat} (h0 : 0 < k) (hk : k < l.length) : (nd l k).parent = (up l k : Int) ∧ up l k < k ∧ sl l (up l k) < sl l k := by
 obtain ⟨a, b, c⟩ := (h.2.2 k hk).2.2.1 h0
 unfold up at *
 exact ⟨by omega, by omega, c⟩
theorem MayT.roots (h : MayT l) {i k : Nat} (hi : i < l.length) (hk : k < l.length) (e : (nd l i).root = (nd l k).root) : i = k := by
 rcases Nat.lt_trichotomy i k with h1 | h1 | h1
 ·
  exact absurd e ((h.2.2 k hk).2.2.2 i h1)
 ·
  exact h1
 ·
  exact absurd e.symm ((h.2.2 i hi).2.2.2 k h1)
def abv (l : List Nd) : Nat → Nat → Nat → Bool
 | 0, i, k => decide (k = i)
 | f + 1, i, k => if i < k then abv l f i (up l k) else decide (k = i)
def zat (l : List Nd) (i k : Nat) : Bool := abv l k i k
theorem z9a (h : MayT l) (i : Nat) : ∀ (k : Nat), k < l.length → ∀ f, k ≤ f → abv l f i k = abv l k i k := by
 intro k
 induction k using Nat.strongRecOn with
 | _ k ih =>
  intro hk f hf
  by_cases h0 : k = 0
  ·
   subst h0
   cases f with
   | zero => rfl
   | succ f => simp [abv]
  ·
   obtain ⟨_, hu, _⟩ := h.par (Nat.pos_of_ne_zero h0) hk
   obtain ⟨f', rfl⟩ : ∃ f', f = f' + 1 := ⟨f - 1, by omega⟩
   obtain ⟨k', hk'⟩ : ∃ k', k = k' + 1 := ⟨k - 1, by omega⟩
   have e1 := ih (up l k) hu (by omega) f' (by omega)
   have e2 := ih (up l k) hu (by omega) k' (by omega)
   rw [show abv l k i k = abv l (k' + 1) i k by rw [← hk']]
   simp only [abv]
   rw [e1, e2]
theorem zcg (i : Nat) : zat l i 0 = decide (i = 0) := by
 unfold zat abv
 rw [Bool.eq_iff_iff, decide_eq_true_iff, decide_eq_true_iff]
 exact ⟨fun h => h.symm, fun h => h.symm⟩
theorem zln (h : MayT l) (i : Nat) {k : Nat} (h0 : 0 < k) (hk : k < l.length) : zat l i k = if i < k then zat l i (up l k) else decide (k = i) := by
 obtain ⟨_, hu, _⟩ := h.par h0 hk
 obtain ⟨k', rfl⟩ : ∃ k', k = k' + 1 := ⟨k - 1, by omega⟩
 unfold zat
 rw [show abv l (k' + 1) i (k' + 1) = if i < k' + 1 then abv l k' i (up l (k' + 1)) else decide (k' + 1 = i) from rfl]
 rw [z9a h i (up l (k' + 1)) (by omega) k' (by omega)]
theorem zhf (h : MayT l) (i : Nat) : ∀ k, k < l.length → zat l i k = true → i ≤ k := by
 intro k
 induction k using Nat.strongRecOn with
 | _ k ih =>
  intro hk ha
  by_cases h0 : k = 0
  ·
   subst h0; rw [zcg, decide_eq_true_iff] at ha; omega
  ·
   obtain ⟨_, hu, _⟩ := h.par (Nat.pos_of_ne_zero h0) hk
   rw [zln h i (Nat.pos_of_ne_zero h0) hk] at ha
   split at ha
   ·
    have := ih _ hu (by omega) ha; omega
   ·
    rw [decide_eq_true_iff] at ha; omega
theorem zby (h : MayT l) (i : Nat) {k : Nat} (h0 : 0 < k) (hk : k < l.length) : zat l i k = true ↔ i = k ∨ zat l i (up l k) = true := by
 obtain ⟨_, hu, _⟩ := h.par h0 hk
 rw [zln h i h0 hk]
 constructor
 ·
  intro ha
  split at ha
  ·
   exact .inr ha
  ·
   rw [decide_eq_true_iff] at ha; exact .inl ha.symm
 ·
  rintro (rfl | ha)
  ·
   rw [if_neg (by omega), decide_eq_true_iff]
  ·
   have := zhf h i _ (by omega) ha
   rw [if_pos (by omega)]; exact ha
theorem zcn (h : MayT l) {k : Nat} (hk : k < l.length) : zat l k k = true := by
 by_cases h0 : k = 0
 ·
  subst h0; rw [zcg]; rfl
 ·
  rw [zby h k (Nat.pos_of_ne_zero h0) hk]; exact .inl rfl
theorem zh4 (h : MayT l) {a b : Nat} (hab : zat l a b = true) : ∀ c, c < l.length → zat l b c = true → zat l a c = true := by
 intro c
 induction c using Nat.strongRecOn with
 | _ c ih =>
  intro hc hbc
  by_cases h0 : c = 0
  ·
   subst h0
   rw [zcg, decide_eq_true_iff] at hbc
   subst hbc; exact hab
  ·
   obtain ⟨_, hu, _⟩ := h.par (Nat.pos_of_ne_zero h0) hc
   rcases (zby h b (Nat.pos_of_ne_zero h0) hc).1 hbc with rfl | hb
   ·
    exact hab
   ·
    exact (zby h a (Nat.pos_of_ne_zero h0) hc).2 (.inr (ih _ hu (by omega) hb))
theorem zvk (h : MayT l) {a c : Nat} : ∀ b, b < l.length → zat l a b = true → zat l c b = true → zat l a c = true ∨ zat l c a = true := by
 intro b
 induction b using Nat.strongRecOn with
 | _ b ih =>
  intro hb ha hc
  by_cases h0 : b = 0
  ·
   subst h0
   rw [zcg, decide_eq_true_iff] at ha hc
   subst ha hc
   exact .inl (by rw [zcg]; rfl)
  ·
   obtain ⟨_, hu, _⟩ := h.par (Nat.pos_of_ne_zero h0) hb
   rcases (zby h a (Nat.pos_of_ne_zero h0) hb).1 ha with rfl | ha'
   ·
    exact .inr hc
   ·
    rcases (zby h c (Nat.pos_of_ne_zero h0) hb).1 hc with rfl | hc'
    ·
     exact .inl ha
    ·
     exact ih _ hu (by omega) ha' hc'
def atF (l : List Nd) (s : Nat) : Nat → Nat → Int
 | 0, i => if sl l i ≤ s then i else -1
 | f + 1, i => if sl l i ≤ s then i else if i = 0 then -1 else atF l s f (up l i)
def atT (l : List Nd) (i s : Nat) : Int := atF l s i i
theorem z9g (h : MayT l) (s : Nat) : ∀ (k : Nat), k < l.length → ∀ f, k ≤ f → atF l s f k = atF l s k k := by
 intro k
 induction k using Nat.strongRecOn with
 | _ k ih =>
  intro hk f hf
  by_cases h0 : k = 0
  ·
   subst h0
   cases f with
   | zero => rfl
   | succ f => simp [atF]
  ·
   obtain ⟨_, hu, _⟩ := h.par (Nat.pos_of_ne_zero h0) hk
   obtain ⟨f', rfl⟩ : ∃ f', f = f' + 1 := ⟨f - 1, by omega⟩
   obtain ⟨k', hk'⟩ : ∃ k', k = k' + 1 := ⟨k - 1, by omega⟩
   have e1 := ih (up l k) hu (by omega) f' (by omega)
   have e2 := ih (up l k) hu (by omega) k' (by omega)
   rw [show atF l s k k = atF l s (k' + 1) k by rw [← hk']]
   simp only [atF]
   rw [e1, e2]
theorem z3z (h : MayT l) (s : Nat) {k : Nat} (h0 : 0 < k) (hk : k < l.length) : atT l k s = if sl l k ≤ s then (k : Int) else atT l (up l k) s := by
 obtain ⟨_, hu, _⟩ := h.par h0 hk
 obtain ⟨k', rfl⟩ : ∃ k', k = k' + 1 := ⟨k - 1, by omega⟩
 unfold atT
 rw [show atF l s (k' + 1) (k' + 1) = if sl l (k' + 1) ≤ s then ((k' + 1 : Nat) : Int) else if k' + 1 = 0 then -1 else atF l s k' (up l (k' + 1)) from rfl]
 rw [if_neg (show ¬ k' + 1 = 0 by omega), z9g h s (up l (k' + 1)) (by omega) k' (by omega)]
theorem zqq (s : Nat) : atT l 0 s = if sl l 0 ≤ s then (0 : Int) else -1 := rfl
theorem z3y (h : MayT l) (s : Nat) : ∀ i, i < l.length → (atT l i s = -1 ∧ ∀ k, zat l k i = true → s < sl l k) ∨ ∃ n : Nat, atT l i s = n ∧ n < l.length ∧ zat l n i = true ∧ sl l n ≤ s ∧ ∀ k, zat l k i = true → sl l k ≤ s → zat l k n = true := by
 intro i
 induction i using Nat.strongRecOn with
 | _ i ih =>
  intro hi
  by_cases hs : sl l i ≤ s
  ·
   refine .inr ⟨i, ?_, hi, zcn h hi, hs, fun k hk _ => hk⟩
   by_cases h0 : i = 0
   ·
    subst h0; rw [zqq, if_pos hs]; rfl
   ·
    rw [z3z h s (Nat.pos_of_ne_zero h0) hi, if_pos hs]
  ·
   by_cases h0 : i = 0
   ·
    subst h0
    refine .inl ⟨by rw [zqq, if_neg hs], fun k hk => ?_⟩
    rw [zcg, decide_eq_true_iff] at hk
    subst hk; omega
   ·
    obtain ⟨_, hu, _⟩ := h.par (Nat.pos_of_ne_zero h0) hi
    rw [z3z h s (Nat.pos_of_ne_zero h0) hi, if_neg hs]
    rcases ih _ hu (by omega) with ⟨e, hn⟩ | ⟨n, e, hn, ha, hsn, hall⟩
    ·
     refine .inl ⟨e, fun k hk => ?_⟩
     rcases (zby h k (Nat.pos_of_ne_zero h0) hi).1 hk with rfl | hk'
     ·
      omega
     ·
      exact hn k hk'
    ·
     refine .inr ⟨n, e, hn, (zby h n (Nat.pos_of_ne_zero h0) hi).2 (.inr ha), hsn, fun k hk hks => ?_⟩
     rcases (zby h k (Nat.pos_of_ne_zero h0) hi).1 hk with rfl | hk'
     ·
      omega
     ·
      exact hall k hk' hks
end
section
open Go.RowKit
def neL (x : Nd) : List Value := (rc x.root).toList ++ ([.int .i64 x.parent] ++ ([num x.slot] ++ ([num x.just])))
def ne (x : Nd) : Array Value := (neL x).toArray
theorem zrl (x : Nd) : (ne x).toList = neL x := rfl
theorem ydy (x : Nd) : (neL x).length = 35 := by simp [neL, zay]
theorem zro (x : Nd) : (ne x).size = 35 := by rw [← Array.length_toList, zrl, ydy]
theorem ydz (x : Nd) : ∀ v ∈ neL x, v.oneCell' = true := by
 intro v hv
 unfold neL at hv
 simp only [List.mem_append, List.mem_singleton] at hv
 rcases hv with hv | rfl | rfl | rfl
 ·
  exact zg5 _ v hv
 ·
  rfl
 ·
  rfl
 ·
  rfl
@[go_sem] theorem ymw (x : Nd) : okA 35 (.agg (ne x)) = true := by
 show ((ne x).size == 35 && (ne x).all (·.oneCell')) = true
 rw [show (ne x).all (·.oneCell') = true from zdo (ydz x), zro]; rfl
def zne : Nd := ⟨zr, 0, 0, 0⟩
theorem zx4 (w : World) : (zeroValue 63).run Tryz.prog w = .ok (.agg (ne zne)) w := by kernel_rfl
@[go_sem ↓] theorem yl4 (ρ : Operand → Value) (dst : Option Tmp) (x : Operand) (ty : TypeId) (pos : String) (after : Array Edge) (guard : Option (Nat × Bool)) (w : World) :
  (execOp ρ { dst, op := .load 63 x, type := ty, pos, after, guard }).run Tryz.prog w = zi5 (ldA w (ρ x) 35) w (zbf Tryz.prog ρ { dst, op := .load 63 x, type := ty, pos, after, guard } w) :=
 zbq Tryz.isAgg63 Tryz.sizeOf63 ρ dst x ty pos after guard w
@[go_sem ↓] theorem yla (ρ : Operand → Value) (dst : Option Tmp) (x y : Operand) (ty : TypeId) (pos : String) (after : Array Edge) (guard : Option (Nat × Bool)) (w : World) :
  (execOp ρ { dst, op := .store 63 x y, type := ty, pos, after, guard }).run Tryz.prog w = zhv (wrA w (ρ x) 35 && okA 35 (ρ y)) (stA w (ρ x) (ρ y)) (zbf Tryz.prog ρ { dst, op := .store 63 x y, type := ty, pos, after, guard } w) :=
 zbe Tryz.sizeOf63 ρ dst x y ty pos after guard w
@[go_sem ↓] theorem ykk (ρ : Operand → Value) (dst : Option Tmp) (ty : TypeId) (pos : String) (after : Array Edge) (guard : Option (Nat × Bool)) (w : World) :
  (execOp ρ { dst, op := .alloc 63, type := ty, pos, after, guard }).run Tryz.prog w = .ok (.value (.pointer (some ⟨w.heap.size, 0, none⟩))) (w.alloc (.cells (ne zne) 63)) := by
 unfold execOp
 simp only [Instr.alloc, Sem.run_bind, zx4, Result.andThen_ok]
 rfl
def places_ne : List (Nat × Nat) := [(0, 32), (32, 1), (33, 1), (34, 1)]
theorem z48 : ∀ w : World, ((Tryz.prog.fieldsOf 63).mapM (m := Sem) fun f => do pure (f.offset, ← Go.sizeOf f.type)).run Tryz.prog w = .ok places_ne.toArray w := fun _ => by kernel_rfl
theorem zgg : Tryz.prog.underlying 63 = some (.struct (Tryz.prog.fieldsOf 63)) := by kernel_rfl
theorem zm3 : (Tryz.prog.fieldsOf 63).toList.map (fun f => (f.name, f.type, f.offset)) = [("Root", 34, 0), ("Parent", 3, 32), ("Slot", 27, 33), ("Just", 27, 34)] := by kernel_rfl
@[go_sem ↓] theorem ykv (ρ : Operand → Value) (dst : Option Tmp) (p : Nat × Operand) (ps : List (Nat × Operand)) (ty : TypeId) (pos : String) (after : Array Edge) (guard : Option (Nat × Bool)) (w : World) :
  (execOp ρ { dst, op := .build 63 (p :: ps).toArray, type := ty, pos, after, guard }).run Tryz.prog w = zgh ((zgp places_ne (ne zne) ((p.1, ρ p.2) :: ps.map fun p => (p.1, ρ p.2))).map .agg) w (zbf Tryz.prog ρ { dst, op := .build 63 (p :: ps).toArray, type := ty, pos, after, guard } w) :=
 zbv zx4 zgg z48 ρ dst (p :: ps).toArray ty pos after guard w
attribute [go_sem] places_ne zro
theorem zej (x : Nd) : neL x = ([]) ++ ((rc x.root).toList ++ ([.int .i64 x.parent] ++ ([num x.slot] ++ ([num x.just])))) ∧ ([] : List Value).length = 0 := by
 constructor
 ·
  unfold neL; simp
 ·
  rfl
theorem znn (x : Nd) : (ne x).extract 0 (0 + 32) = rc x.root := zck (zej x).1 (zej x).2 (zay _)
theorem zp9 {w : World} {b off : Nat} {x : Nd} (h : w.rangeAt b off (neL x)) : ldA w (.pointer (some ⟨b, off + 0, none⟩)) 32 = some (rc x.root) := zb8 h (zej x).1 (zej x).2 (zay _)
theorem zid {w : World} {g : Nat} {t : TypeId} {fr : Nat × Nat} {x : Nd} (h : w.heap[g]? = some (.cells (ne x) t fr)) : ldA w (.pointer (some ⟨g, 0, none⟩)) 32 = some (rc x.root) := by have := zp9 (x := x) (zak h); rwa [Nat.zero_add] at this
@[go_sem] theorem yge (w : World) (t : TypeId) (b : Nat) (x : Nd) (hb : b = w.heap.size) : ldA (w.alloc (.cells (ne x) t)) (.pointer (some ⟨b, 0, none⟩)) 32 = some (rc x.root) := by subst hb; exact zid (heap_alloc_last w _)
theorem zwk (x : Nd) (y : Rt) : zba (ne x) 0 (rc y) = ne { x with root := y } := by
 rw [za6 (c := ne x) (zej x).1 (zej x).2 (by simp [zay])]
 simp [ne, neL]
theorem zc7 (x : Nd) : neL x = ((rc x.root).toList) ++ ([.int .i64 x.parent] ++ ([num x.slot] ++ ([num x.just]))) ∧ ((rc x.root).toList : List Value).length = 32 := by
 constructor
 ·
  unfold neL; simp
 ·
  simp [zay]
theorem zef (x : Nd) : (ne x)[32]? = some (.int .i64 x.parent) := zgy (zc7 x).1 (zc7 x).2
@[go_sem] theorem ydx (x : Nd) (h : 32 < (ne x).size) : (ne x)[32]'h = .int .i64 x.parent := by have := zef x; rw [Array.getElem?_eq_getElem h] at this; exact Option.some.inj this
theorem zk1 {w : World} {b off : Nat} {x : Nd} (h : w.rangeAt b off (neL x)) : w.cell? ⟨b, off + 32, none⟩ = some (.int .i64 x.parent) := zbj h (zc7 x).1 (zc7 x).2
theorem zrn {w : World} {g : Nat} {t : TypeId} {fr : Nat × Nat} {x : Nd} (h : w.heap[g]? = some (.cells (ne x) t fr)) : w.cell? ⟨g, 32, none⟩ = some (.int .i64 x.parent) := by have := zk1 (x := x) (zak h); rwa [Nat.zero_add] at this
theorem zrm (x : Nd) (y : Int) : zba (ne x) 32 #[.int .i64 y] = ne { x with parent := y } := by
 rw [za6 (c := ne x) (r := #[.int .i64 y]) (zc7 x).1 (zc7 x).2 rfl]
 simp [ne, neL]
theorem zek (x : Nd) : neL x = ((rc x.root).toList ++ [.int .i64 x.parent]) ++ ([num x.slot] ++ ([num x.just])) ∧ ((rc x.root).toList ++ [.int .i64 x.parent] : List Value).length = 33 := by
 constructor
 ·
  unfold neL; simp
 ·
  simp [zay]
theorem zic (x : Nd) : (ne x)[33]? = some (num x.slot) := zgy (zek x).1 (zek x).2
@[go_sem] theorem yhm (x : Nd) (h : 33 < (ne x).size) : (ne x)[33]'h = num x.slot := by have := zic x; rw [Array.getElem?_eq_getElem h] at this; exact Option.some.inj this
theorem zqa {w : World} {b off : Nat} {x : Nd} (h : w.rangeAt b off (neL x)) : w.cell? ⟨b, off + 33, none⟩ = some (num x.slot) := zbj h (zek x).1 (zek x).2
theorem zwl {w : World} {g : Nat} {t : TypeId} {fr : Nat × Nat} {x : Nd} (h : w.heap[g]? = some (.cells (ne x) t fr)) : w.cell? ⟨g, 33, none⟩ = some (num x.slot) := by have := zqa (x := x) (zak h); rwa [Nat.zero_add] at this
theorem zno (x : Nd) (y : UInt64) : zba (ne x) 33 #[num y] = ne { x with slot := y } := by
 rw [za6 (c := ne x) (r := #[num y]) (zek x).1 (zek x).2 rfl]
 simp [ne, neL]
theorem zhn (x : Nd) : neL x = ((rc x.root).toList ++ [.int .i64 x.parent] ++ [num x.slot]) ++ ([num x.just] ++ ([])) ∧ ((rc x.root).toList ++ [.int .i64 x.parent] ++ [num x.slot] : List Value).length = 34 := by
 constructor
 ·
  unfold neL; simp
 ·
  simp [zay]
theorem znm (x : Nd) : (ne x)[34]? = some (num x.just) := zgy (zhn x).1 (zhn x).2
theorem zp8 {w : World} {b off : Nat} {x : Nd} (h : w.rangeAt b off (neL x)) : w.cell? ⟨b, off + 34, none⟩ = some (num x.just) := zbj h (zhn x).1 (zhn x).2
theorem znp {w : World} {g : Nat} {t : TypeId} {fr : Nat × Nat} {x : Nd} (h : w.heap[g]? = some (.cells (ne x) t fr)) : w.cell? ⟨g, 34, none⟩ = some (num x.just) := by have := zp8 (x := x) (zak h); rwa [Nat.zero_add] at this
attribute [go_sem] zwk zrm zno
@[go_sem] theorem yd0 (x : Nd) (y : UInt64) : zba (ne x) 33 #[.int .u64 (y.toNat : Int)] = ne { x with slot := y } := zno x y
theorem yis (d : Nat) (x y : Nd) (w : World) : (Op.equalIn (d + 3) 63 (.agg (ne x)) (.agg (ne y))).run Tryz.prog w = .ok (decide (x = y)) w := by
 rw [show d + 3 = (d + 2) + 1 from rfl, run_equalIn_struct w (d + 2) _ _ _ zgg (by kernel_rfl)]
 rw [zce zm3 (by decide) (zny _ _ _ (znn x) w) (zny _ _ _ (znn y) w) (z42 (d + 0) _ _ w)
  (fun _ h1 => zce h1 (by decide) (z66 _ _ _ (zef x) w) (z66 _ _ _ (zef y) w) (yiq (d + 1) _ _ w)
  (fun _ h2 => zce h2 (by decide) (zua _ _ _ (zic x) w) (zua _ _ _ (zic y) w) (yap (d + 1) _ _ w)
  (fun _ h3 => zce h3 (by decide) (zua _ _ _ (znm x) w) (zua _ _ _ (znm y) w) (yap (d + 1) _ _ w)
  (fun _ hn => zmx hn))))]
 congr 1
 rw [Bool.eq_iff_iff]
 simp only [Bool.and_eq_true, decide_eq_true_iff, and_true]
 exact ⟨fun h => Nd.ext h.1 h.2.1 h.2.2.1 h.2.2.2, fun h => by subst h; exact ⟨rfl, rfl, rfl, rfl⟩⟩
@[go_sem ↓] theorem ym7 (x y : Nd) (w : World) : (Op.equalIn 10000 63 (.agg (ne x)) (.agg (ne y))).run Tryz.prog w = .ok (decide (x = y)) w := yis 9997 x y w
theorem zph : Tryz.prog.cellsOf 63 = 35 := by kernel_rfl
section
open Go.WideShapes Go.ChangeShapes
variable {H : Type} {enc : TypeId × Value → H} {w : World} {base : Nat} {sp : Nat → Bool} {held : Bool}
theorem z93 {fuel : Nat} {cs : List Value} {x : DataW H × List MemPlace} (hl : cs.length = 35) (h : DataW.trod enc Tryz.prog w base sp held fuel 63 cs = some x) : ∃ a : Nd, cs = neL a := by
 obtain ⟨_, _, h0⟩ := zav (i := 0) zgg zm3 rfl h
 rw [zcr] at h0
 obtain ⟨a0, e0⟩ := zdr h0
 obtain ⟨_, _, h1⟩ := zav (i := 1) zgg zm3 rfl h
 rw [zfz] at h1
 obtain ⟨a1, e1⟩ := zis h1
 obtain ⟨_, _, h2⟩ := zav (i := 2) zgg zm3 rfl h
 rw [zb9] at h2
 obtain ⟨a2, e2⟩ := zcy h2
 obtain ⟨_, _, h3⟩ := zav (i := 3) zgg zm3 rfl h
 rw [zb9] at h3
 obtain ⟨a3, e3⟩ := zcy h3
 refine ⟨⟨a0, a1, a2, a3⟩, ?_⟩
 unfold neL
 have j0 := za9 cs 0 32
 rw [e0] at j0
 have j1 := za9 cs 32 1
 rw [e1] at j1
 have j2 := za9 cs 33 1
 rw [e2] at j2
 have j3 := za9 cs 34 1
 rw [e3] at j3
 have jl : cs.drop 35 = [] := List.drop_of_length_le (by omega)
 rw [show (34 + 1) = 35 from rfl, jl, List.append_nil] at j3
 rw [← List.drop_zero (l := cs)]
 rw [← j0]
 rw [show cs.drop (0 + 32) = cs.drop 32 from rfl, ← j1]
 rw [show cs.drop (32 + 1) = cs.drop 33 from rfl, ← j2]
 rw [show cs.drop (33 + 1) = cs.drop 34 from rfl, ← j3]
 try rfl
end
def Ene : Lie Nd := ⟨63, 35, neL, by decide, ydy, ydz⟩
attribute [irreducible] ne
end
end Go.Proofs.YtkalofboioffiaaGreat
