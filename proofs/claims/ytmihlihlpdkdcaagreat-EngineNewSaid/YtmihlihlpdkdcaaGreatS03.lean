import Derived.Test.YtmihlihlpdkdcaaGreatS02
import Derived.Laws.Small
import Derived.Test.YtmihlihlpdkdcaaGreatRows
import Derived.ChangeMaps5
import Derived.OpenShut
import Derived.Carry
import Derived.WalkKit
import Derived.Below
import Derived.Sort.Grow
import Derived.Deep.WholeRow
import Derived.Deep.MidRow
import Derived.Deep.Draws
import Derived.Test.YtmihlihlpdkdcaaGreatS01
import Derived.Outline
import Derived.Deep.QuietTactic
import Derived.BigQuiet
import Derived.Lib.Hide
import Derived.ChangeKeysEq
import Derived.WideKeyArr2
import Derived.Deep.Slices
namespace Go.Proofs.YtmihlihlpdkdcaaGreat
open Go.RowKit
set_option maxRecDepth 200000
set_option maxHeartbeats 64000000
section
open Go.RowKit
def num (n : UInt64) : Value := .int .u64 (n.toNat : Int)
attribute [go_sem] num
theorem yt2 {a b : UInt64} (h : num a = num b) : a = b := by
 simp only [num, Value.int.injEq, true_and] at h
 exact UInt64.toNat_inj.1 (by omega)
theorem yma (a b : UInt64) : ((a.toNat : Int) == (b.toNat : Int)) = decide (a = b) := by
 rw [Bool.eq_iff_iff, decide_eq_true_iff, beq_iff_eq]
 constructor
 ·
  intro h; exact UInt64.toNat_inj.1 (by omega)
 ·
  intro h; rw [h]
theorem z8n (n : Nat) (a b : UInt64) (w : World) : (Op.equalIn (n + 1) 30 (num a) (num b)).run Tryz.prog w = .ok (decide (a = b)) w := by
 unfold num
 rw [run_equalIn_int w n 30 .u64 .u64 _ _ Tryz.underlying30, yma]
theorem yrz (n : Nat) (a b : Int) (w : World) : (Op.equalIn (n + 1) 3 (.int .i64 a) (.int .i64 b)).run Tryz.prog w = .ok (decide (a = b)) w := by
 rw [run_equalIn_int w n 3 .i64 .i64 _ _ Tryz.underlying3]
 rfl
theorem ytn (n : Nat) (a b : Bool) (w : World) : (Op.equalIn (n + 1) 4 (.bool a) (.bool b)).run Tryz.prog w = .ok (decide (a = b)) w := by
 rw [run_equalIn_bool w n 4 _ _ Tryz.underlying4]
 cases a <;> cases b <;> rfl
theorem zok (c : Array Value) (o : Nat) (n : UInt64) (h : c[o]? = some (num n)) (w : World) : (part 30 c o).run Tryz.prog w = .ok (num n) w := zvi (P := Tryz.prog) Tryz.isAgg30 c o _ h w
theorem yfs (c : Array Value) (o : Nat) (n : Int) (h : c[o]? = some (.int .i64 n)) (w : World) : (part 3 c o).run Tryz.prog w = .ok (.int .i64 n) w := zvi (P := Tryz.prog) Tryz.isAgg3 c o _ h w
theorem ypz (c : Array Value) (o : Nat) (n : Bool) (h : c[o]? = some (.bool n)) (w : World) : (part 4 c o).run Tryz.prog w = .ok (.bool n) w := zvi (P := Tryz.prog) Tryz.isAgg4 c o _ h w
theorem z2s : Tryz.prog.cellsOf 30 = 1 := by kernel_rfl
def Eint : Lie Int := ⟨3, 1, fun n => [.int .i64 n], by decide, fun _ => rfl, fun _ u h => by rw [List.mem_singleton.1 h]; rfl⟩
def Enum : Lie UInt64 := ⟨30, 1, fun n => [num n], by decide, fun _ => rfl, fun _ u h => by rw [List.mem_singleton.1 h]; rfl⟩
section
open Go.WideShapes Go.ChangeShapes
variable {H : Type} {enc : TypeId × Value → H} {w : World} {base : Nat} {sp : Nat → Bool} {held : Bool}
theorem ydo {fuel : Nat} {cs : List Value} {x : DataW H × List MemPlace} (h : DataW.trod enc Tryz.prog w base sp held fuel 30 cs = some x) : ∃ n : UInt64, cs = [num n] := by
 obtain ⟨n, e1, _, e3⟩ := DataW.trod_int Tryz.underlying30 h
 have hb : (decide (IntKind.u64.min ≤ n) && decide (n ≤ IntKind.u64.max)) = true := e3
 rw [Bool.and_eq_true, decide_eq_true_eq, decide_eq_true_eq, show IntKind.u64.min = 0 from rfl, show IntKind.u64.max = 18446744073709551615 from rfl] at hb
 refine ⟨UInt64.ofNat n.toNat, ?_⟩
 rw [e1, num, UInt64.toNat_ofNat', Nat.mod_eq_of_lt (by simp; omega)]
 congr 2
 omega
end
end
abbrev Rt := Vector UInt8 32
def rc (r : Rt) : Array Value := r.toArray.map fun b => .int .u8 (b.toNat : Int)
def at8 (r : Rt) (k : Nat) : Int := ((r.toList.getD k 0).toNat : Int)
theorem zal (r : Rt) : (rc r).size = 32 := by simp [rc]
theorem z3w (r : Rt) (k : Nat) (h : k < 32) : (rc r)[k]? = some (.int .u8 (at8 r k)) := by
 simp [rc, at8, h]
@[go_sem] theorem zni (r : Rt) (k : Nat) (h : k < (rc r).size) : (rc r)[k] = .int .u8 (at8 r k) := by
 have h' : k < 32 := by rw [zal] at h; exact h
 have := z3w r k h'
 rw [Array.getElem?_eq_getElem h] at this
 exact Option.some.inj this
theorem ypx (r : Rt) (k : Nat) : 0 ≤ at8 r k ∧ at8 r k < 256 := by
 unfold at8
 have := (r.toList.getD k 0).toNat_lt
 omega
theorem yjt {a b : Rt} (h : rc a = rc b) : a = b := by
 unfold rc at h
 have hi : Function.Injective (fun b : UInt8 => Value.int .u8 (b.toNat : Int)) := by
  intro x y hxy
  simp only [Value.int.injEq, true_and] at hxy
  exact UInt8.toNat_inj.1 (by omega)
 have := (Array.map_inj_right (f := fun b : UInt8 => Value.int .u8 (b.toNat : Int)) (fun x y h => hi h)).1 h
 exact Vector.toArray_inj.1 this
theorem yki (r : Rt) : (rc r).all (·.oneCell') = true := by
 rw [Array.all_eq_true_iff_forall_mem]
 intro v hv
 obtain ⟨b, _, rfl⟩ := Array.mem_map.1 hv
 rfl
def z9j : List UInt8 → List UInt8 → Bool
 | x :: xs, y :: ys => if x = y then z9j xs ys else decide (x < y)
 | _, _ => false
def zjr (a b : Rt) : Bool := z9j a.toList b.toList
theorem zc0 (l : List UInt8) {k : Nat} (h : k < l.length) : l.getD k 0 = l[k] := by simp [h]
def zgg (a b : Rt) (k : Nat) : Bool := z9j (a.toList.drop k) (b.toList.drop k)
theorem zxs (a b : Rt) : zgg a b 32 = false := by
 unfold zgg
 rw [List.drop_of_length_le (by simp)]
 rfl
theorem zvr (a b : Rt) (k : Nat) (hk : k < 32) (h : at8 a k = at8 b k) : zgg a b k = zgg a b (k + 1) := by
 unfold zgg
 have ha : k < a.toList.length := by simp; omega
 have hb : k < b.toList.length := by simp; omega
 have e : a.toList[k] = b.toList[k] := by
  have h' : (a.toList.getD k 0).toNat = (b.toList.getD k 0).toNat := by unfold at8 at h; omega
  rw [zc0 _ ha, zc0 _ hb] at h'
  exact UInt8.toNat_inj.1 h'
 rw [List.drop_eq_getElem_cons ha, List.drop_eq_getElem_cons hb, z9j, if_pos e]
theorem zr3 (a b : Rt) (k : Nat) (hk : k < 32) (h : at8 a k ≠ at8 b k) : zgg a b k = decide (at8 a k < at8 b k) := by
 unfold zgg
 have ha : k < a.toList.length := by simp; omega
 have hb : k < b.toList.length := by simp; omega
 unfold at8 at h ⊢
 rw [zc0 _ ha, zc0 _ hb] at h ⊢
 rw [List.drop_eq_getElem_cons ha, List.drop_eq_getElem_cons hb, z9j, if_neg (fun g => h (by rw [g]))]
 rw [decide_eq_decide, UInt8.lt_iff_toNat_lt]
 omega
section
open Go.WideShapes Go.ChangeShapes
open Go.RowKit Go.WideShapes Go.ChangeShapes
def eqB (a b : Rt) : Bool := decide (a = b)
theorem z9x {a b : Rt} (h : ∀ i, i < 32 → at8 a i = at8 b i) : a = b := by
 apply Vector.toList_inj.1
 apply List.ext_getElem (by simp)
 intro i h1 h2
 have := h i (by simpa using h1)
 unfold at8 at this
 rw [zc0 _ h1, zc0 _ h2] at this
 exact UInt8.toNat_inj.1 (by omega)
theorem z8x (a b : Rt) : ((List.range 32).all fun i => at8 a i == at8 b i) = eqB a b := by
 unfold eqB
 rw [Bool.eq_iff_iff, List.all_eq_true, decide_eq_true_iff]
 constructor
 ·
  intro h
  exact z9x fun i hi => by simpa using h i (List.mem_range.2 hi)
 ·
  rintro rfl i _
  simp
theorem z99 (a : Rt) (i : Nat) (hi : i < 32) (w : World) : (part 5 (rc a) i).run Tryz.prog w = .ok (.int .u8 (at8 a i)) w := by
 have h := z3w a i hi
 have a5 := Tryz.isAgg5
 unfold part
 go_simp
theorem zte (n : Nat) (a b : Rt) (w : World) : ∀ is : List Nat, (∀ i ∈ is, i < 32) →
  (Op.eqItems (n + 1) 5 1 (rc a) (rc b) is).run Tryz.prog w = .ok (is.all fun i => at8 a i == at8 b i) w
 | [], _ => by simp [Op.eqItems]
 | i :: is, h => by
  have hi := h i (by simp)
  have ih := zte n a b w is (fun j hj => h j (by simp [hj]))
  have u5 := Tryz.underlying5
  have e1 : (Op.equalIn (n + 1) 5 (.int .u8 (at8 a i)) (.int .u8 (at8 b i))).run Tryz.prog w = .ok (at8 a i == at8 b i) w := by
   rw [Op.equalIn]
   go_simp
  simp only [Op.eqItems, Nat.mul_one, Sem.run_bind, z99 a i hi, z99 b i hi, Result.andThen_ok, e1]
  by_cases e : at8 a i = at8 b i
  ·
   simp [e, ih]
  ·
   simp [e]
theorem yct (n : Nat) (a b : Rt) (w : World) : (Op.equalIn (n + 2) 23 (.agg (rc a)) (.agg (rc b))).run Tryz.prog w = .ok (eqB a b) w := by
 obtain ⟨i, hi⟩ : ∃ i, Tryz.prog.info? 5 = some i := Option.isSome_iff_exists.1 (by kernel_rfl)
 rw [run_equalIn_array w (n + 1) (rc a) (rc b) Tryz.underlying23 hi]
 rw [show Tryz.prog.cellsOf 5 = 1 by kernel_rfl, zte n a b w _ (fun i h => List.mem_range.1 h), z8x]
@[go_sem] theorem yuo (a b : Rt) (w : World) : (Op.equalIn 10000 23 (.agg (rc a)) (.agg (rc b))).run Tryz.prog w = .ok (eqB a b) w := yct 9998 a b w
theorem yia (a : Rt) : eqB a a = true := by simp [eqB]
theorem z82 (a b : Rt) : eqB a b = true ↔ a = b := by simp [eqB]
attribute [go_sem] zal
@[go_sem] theorem yug (r : Rt) : okA 32 (.agg (rc r)) = true := by
 show ((rc r).size == 32 && (rc r).all (·.oneCell')) = true
 rw [yki, zal]; rfl
@[go_sem ↓] theorem ypj (ρ : Operand → Value) (dst : Option Tmp) (x : Operand) (ty : TypeId) (pos : String) (after : Array Edge) (guard : Option (Nat × Bool)) (w : World) :
  (execOp ρ { dst, op := .load 23 x, type := ty, pos, after, guard }).run Tryz.prog w = zh7 (ldA w (ρ x) 32) w (za4 Tryz.prog ρ { dst, op := .load 23 x, type := ty, pos, after, guard } w) :=
 zbh Tryz.isAgg23 Tryz.sizeOf23 ρ dst x ty pos after guard w
@[go_sem ↓] theorem yoy (ρ : Operand → Value) (dst : Option Tmp) (x y : Operand) (ty : TypeId) (pos : String) (after : Array Edge) (guard : Option (Nat × Bool)) (w : World) :
  (execOp ρ { dst, op := .store 23 x y, type := ty, pos, after, guard }).run Tryz.prog w = zh8 (wrA w (ρ x) 32 && okA 32 (ρ y)) (stA w (ρ x) (ρ y)) (za4 Tryz.prog ρ { dst, op := .store 23 x y, type := ty, pos, after, guard } w) :=
 za7 Tryz.sizeOf23 ρ dst x y ty pos after guard w
def zr : Rt := Vector.replicate 32 0
theorem ytu : rc zr = #[.int .u8 0, .int .u8 0, .int .u8 0, .int .u8 0, .int .u8 0, .int .u8 0, .int .u8 0, .int .u8 0, .int .u8 0, .int .u8 0, .int .u8 0, .int .u8 0, .int .u8 0, .int .u8 0, .int .u8 0, .int .u8 0, .int .u8 0, .int .u8 0, .int .u8 0, .int .u8 0, .int .u8 0, .int .u8 0, .int .u8 0, .int .u8 0, .int .u8 0, .int .u8 0, .int .u8 0, .int .u8 0, .int .u8 0, .int .u8 0, .int .u8 0, .int .u8 0] := by kernel_rfl
theorem zl3 (w : World) : (zeroValue 23).run Tryz.prog w = .ok (.agg (rc zr)) w := by
 rw [ytu]; exact Tryz.zeroValue23 w
@[go_sem ↓] theorem yo2 (ρ : Operand → Value) (dst : Option Tmp) (ty : TypeId) (pos : String) (after : Array Edge) (guard : Option (Nat × Bool)) (w : World) :
  (execOp ρ { dst, op := .alloc 23, type := ty, pos, after, guard }).run Tryz.prog w = .ok (.value (.pointer (some ⟨w.heap.size, 0, none⟩))) (w.alloc (.cells (rc zr) 23)) := by
 unfold execOp
 simp only [Instr.alloc, Sem.run_bind, zl3, Result.andThen_ok]
 rfl
def zgk : Value → Array Value
 | .agg c => c
 | _ => #[]
attribute [go_sem] zgk
theorem zie (z c : Array Value) (h : c.size = z.size) : Array.foldl (fun cs (p : Value × Nat) => cs.setIfInBounds p.2 p.1) z c.zipIdx 0 c.size = c := by
 have e : Array.foldl (fun cs (p : Value × Nat) => cs.setIfInBounds p.2 p.1) z c.zipIdx 0 c.size = ((c.toList.zipIdx 0).foldl (fun c p => c.setIfInBounds p.2 p.1) z) := by
  have h2 : c.size = c.zipIdx.size := by simp
  rw [h2, ← Array.foldl_toList, Array.toList_zipIdx]
 rw [e]
 apply Array.ext_getElem?
 intro j
 rw [zg8]
 by_cases hj : j < c.size
 ·
  rw [if_pos (by simp; omega)]; simp
 ·
  rw [if_neg (by simp; omega), Array.getElem?_eq_none (by omega), Array.getElem?_eq_none (by omega)]
theorem arr_root : WideMaps.ArrKey Tryz.prog 23 5 32 := ⟨Tryz.underlying23, by kernel_rfl, by kernel_rfl, by kernel_rfl⟩
theorem zfz (r : Rt) : ∀ u ∈ (rc r).toList, u.oneCell' = true := fun u h => (Array.all_eq_true_iff_forall_mem.1 (yki r)) u (by simpa using h)
section
variable {H : Type} {enc : TypeId × Value → H} {P : Program}
end
section
variable {H : Type} {enc : TypeId × Value → H} {w : World} {base : Nat} {sp : Nat → Bool} {held : Bool}
theorem z61 {fuel : Nat} {cs : List Value} {x : DataW H × List MemPlace} (h : DataW.trod enc Tryz.prog w base sp held fuel 23 cs = some x) : ∃ r : Rt, cs = (rc r).toList := by
 obtain ⟨xs, m, _, _, hl, hxl, hx⟩ := DataW.trod_array Tryz.underlying23 h
 rw [arr_root.size] at hl
 rw [arr_root.one] at hx
 have hc : ∀ i, i < 32 → ∃ n : Int, cs[i]? = some (.int .u8 n) ∧ 0 ≤ n ∧ n < 256 := fun i hi => by
  have h1 := hx i hi
  rw [List.getElem?_eq_getElem (by omega)] at h1
  obtain ⟨n, e1, _, e3⟩ := DataW.trod_int Tryz.underlying5 h1
  rw [Nat.mul_one, List.drop_eq_getElem_cons (by omega)] at e1
  have e4 : cs[i]'(by omega) = .int .u8 n := by
   rw [List.take_succ_cons, List.take_zero] at e1
   exact (List.cons.inj e1).1
  have hb : (decide (IntKind.u8.min ≤ n) && decide (n ≤ IntKind.u8.max)) = true := e3
  rw [Bool.and_eq_true, decide_eq_true_eq, decide_eq_true_eq, show IntKind.u8.min = 0 from rfl, show IntKind.u8.max = 255 from rfl] at hb
  exact ⟨n, by rw [List.getElem?_eq_getElem (by omega), e4], by omega, by omega⟩
 obtain ⟨f, hf⟩ := Deep.choose_lt hc
 refine ⟨Vector.ofFn fun i : Fin 32 => UInt8.ofNat (f i.val).toNat, ?_⟩
 apply List.ext_getElem?
 intro i
 by_cases hi : i < 32
 ·
  obtain ⟨h1, h2, h3⟩ := hf i hi
  rw [h1, Array.getElem?_toList, z3w _ i hi]
  unfold at8
  rw [zc0 _ (by simp; exact hi)]
  simp
  omega
 ·
  rw [List.getElem?_eq_none (by omega), List.getElem?_eq_none (by simp [zal]; omega)]
theorem open_root {r : Reach} {b0 : Nat} {v : Value} {d : DataW H} {ps : List MemPlace} (hval : Value.okWide Tryz.prog w r b0 23 v) (hd : DataW.Trod enc Tryz.prog w base sp held 23 v d ps) : ∃ r : Rt, v = .agg (rc r) := by
 obtain ⟨xs, rfl, _⟩ := WideMaps.okWide_arr arr_root hval
 obtain ⟨fuel, hf⟩ := hd
 obtain ⟨r, hr⟩ := z61 hf
 refine ⟨r, ?_⟩
 have : xs = rc r := Array.toList_inj.1 hr
 rw [this]
end
end
theorem yrb (r : Rt) : (rc r).toList.length = 32 := by rw [Array.length_toList, zal]
theorem yh7 (n : Nat) (a b : Rt) (w : World) : (Op.equalIn (n + 2) 23 (.agg (rc a)) (.agg (rc b))).run Tryz.prog w = .ok (decide (a = b)) w := yct n a b w
theorem zxd (c : Array Value) (o : Nat) (r : Rt) (h : c.extract o (o + 32) = rc r) (w : World) : (part 23 c o).run Tryz.prog w = .ok (.agg (rc r)) w := by
 rw [z3u (P := Tryz.prog) Tryz.isAgg23 Tryz.sizeOf23, h]
def Ert : Lie Rt := ⟨23, 32, fun r => (rc r).toList, by decide, yrb, zfz⟩
structure SlV where
 p : Option Addr
 len : Nat
 cap : Nat
def sv (s : SlV) : Value := .slice s.p s.len s.cap
@[go_sem] theorem zav (p : Option Addr) (n c : Nat) : sv ⟨p, n, c⟩ = .slice p n c := rfl
structure Nd where
 root : Rt
 parent : Int
 slot : UInt64
 just : UInt64
theorem Nd.ext {x y : Nd} (h0 : x.root = y.root) (h1 : x.parent = y.parent) (h2 : x.slot = y.slot) (h3 : x.just = y.just) : x = y := by cases x; cases y; simp_all
instance : DecidableEq Nd := fun x y => decidable_of_iff (x.root = y.root ∧ x.parent = y.parent ∧ x.slot = y.slot ∧ x.just = y.just) ⟨fun h => Nd.ext h.1 h.2.1 h.2.2.1 h.2.2.2, fun h => by subst h; exact ⟨rfl, rfl, rfl, rfl⟩⟩
def nd (l : List Nd) (i : Nat) : Nd := l.getD i ⟨zr, 0, 0, 0⟩
theorem zva (l : List Nd) {i : Nat} (h : i < l.length) : nd l i = l[i] := by simp [nd, h]
def sl (l : List Nd) (i : Nat) : Nat := (nd l i).slot.toNat
def up (l : List Nd) (i : Nat) : Nat := (nd l i).parent.toNat
def zx1 (l : List Nd) (i : Nat) : Prop :=
 sl l i ≤ 1099511627776 ∧ (i = 0 → (nd l i).parent = -1) ∧ (0 < i → 0 ≤ (nd l i).parent ∧ (nd l i).parent < i ∧ sl l (up l i) < sl l i) ∧ ∀ k, k < i → (nd l k).root ≠ (nd l i).root
instance (l : List Nd) (i : Nat) : Decidable (zx1 l i) := by unfold zx1; exact inferInstance
def MayT (l : List Nd) : Prop := 1 ≤ l.length ∧ l.length ≤ 12 ∧ ∀ i, i < l.length → zx1 l i
instance (l : List Nd) : Decidable (MayT l) := by unfold MayT; exact inferInstance
section
variable {l : List Nd}
theorem MayT.pos (h : MayT l) : 0 < l.length := h.1
theorem MayT.le (h : MayT l) : l.length ≤ 12 := h.2.1
theorem MayT.first (h : MayT l) : (nd l 0).parent = -1 := (h.2.2 0 h.pos).2.1 rfl
theorem MayT.par (h : MayT l) {k : Nat} (h0 : 0 < k) (hk : k < l.length) : (nd l k).parent = (up l k : Int) ∧ up l k < k ∧ sl l (up l k) < sl l k := by
 obtain ⟨a, b, c⟩ := (h.2.2 k hk).2.2.1 h0
 unfold up at *
 exact ⟨by omega, by omega, c⟩
theorem MayT.slot (h : MayT l) {k : Nat} (hk : k < l.length) : sl l k ≤ 1099511627776 := (h.2.2 k hk).1
theorem MayT.roots (h : MayT l) {i k : Nat} (hi : i < l.length) (hk : k < l.length) (e : (nd l i).root = (nd l k).root) : i = k := by
 rcases Nat.lt_trichotomy i k with h1 | h1 | h1
 ·
  exact absurd e ((h.2.2 k hk).2.2.2 i h1)
 ·
  exact h1
 ·
  exact absurd e.symm ((h.2.2 i hi).2.2.2 k h1)
def abv (l : List Nd) : Nat → Nat → Nat → Bool
 | 0, i, k => decide (k = i)
 | f + 1, i, k => if i < k then abv l f i (up l k) else decide (k = i)
def zbn (l : List Nd) (i k : Nat) : Bool := abv l k i k
theorem yir (h : MayT l) (i : Nat) : ∀ (k : Nat), k < l.length → ∀ f, k ≤ f → abv l f i k = abv l k i k := by
 intro k
 induction k using Nat.strongRecOn with
 | _ k ih =>
  intro hk f hf
  by_cases h0 : k = 0
  ·
   subst h0
   cases f with
   | zero => rfl
   | succ f => simp [abv]
  ·
   obtain ⟨_, hu, _⟩ := h.par (Nat.pos_of_ne_zero h0) hk
   obtain ⟨f', rfl⟩ : ∃ f', f = f' + 1 := ⟨f - 1, by omega⟩
   obtain ⟨k', hk'⟩ : ∃ k', k = k' + 1 := ⟨k - 1, by omega⟩
   have e1 := ih (up l k) hu (by omega) f' (by omega)
   have e2 := ih (up l k) hu (by omega) k' (by omega)
   rw [show abv l k i k = abv l (k' + 1) i k by rw [← hk']]
   simp only [abv]
   rw [e1, e2]
theorem zdu (i : Nat) : zbn l i 0 = decide (i = 0) := by
 unfold zbn abv
 rw [Bool.eq_iff_iff, decide_eq_true_iff, decide_eq_true_iff]
 exact ⟨fun h => h.symm, fun h => h.symm⟩
theorem z3x (h : MayT l) (i : Nat) {k : Nat} (h0 : 0 < k) (hk : k < l.length) : zbn l i k = if i < k then zbn l i (up l k) else decide (k = i) := by
 obtain ⟨_, hu, _⟩ := h.par h0 hk
 obtain ⟨k', rfl⟩ : ∃ k', k = k' + 1 := ⟨k - 1, by omega⟩
 unfold zbn
 rw [show abv l (k' + 1) i (k' + 1) = if i < k' + 1 then abv l k' i (up l (k' + 1)) else decide (k' + 1 = i) from rfl]
 rw [yir h i (up l (k' + 1)) (by omega) k' (by omega)]
theorem zi9 (h : MayT l) (i : Nat) : ∀ k, k < l.length → zbn l i k = true → i ≤ k := by
 intro k
 induction k using Nat.strongRecOn with
 | _ k ih =>
  intro hk ha
  by_cases h0 : k = 0
  ·
   subst h0; rw [zdu, decide_eq_true_iff] at ha; omega
  ·
   obtain ⟨_, hu, _⟩ := h.par (Nat.pos_of_ne_zero h0) hk
   rw [z3x h i (Nat.pos_of_ne_zero h0) hk] at ha
   split at ha
   ·
    have := ih _ hu (by omega) ha; omega
   ·
    rw [decide_eq_true_iff] at ha; omega
theorem zdn (h : MayT l) (i : Nat) {k : Nat} (h0 : 0 < k) (hk : k < l.length) : zbn l i k = true ↔ i = k ∨ zbn l i (up l k) = true := by
 obtain ⟨_, hu, _⟩ := h.par h0 hk
 rw [z3x h i h0 hk]
 constructor
 ·
  intro ha
  split at ha
  ·
   exact .inr ha
  ·
   rw [decide_eq_true_iff] at ha; exact .inl ha.symm
 ·
  rintro (rfl | ha)
  ·
   rw [if_neg (by omega), decide_eq_true_iff]
  ·
   have := zi9 h i _ (by omega) ha
   rw [if_pos (by omega)]; exact ha
theorem zgx (h : MayT l) {k : Nat} (hk : k < l.length) : zbn l k k = true := by
 by_cases h0 : k = 0
 ·
  subst h0; rw [zdu]; rfl
 ·
  rw [zdn h k (Nat.pos_of_ne_zero h0) hk]; exact .inl rfl
theorem z2f (h : MayT l) {a b : Nat} (hab : zbn l a b = true) : ∀ c, c < l.length → zbn l b c = true → zbn l a c = true := by
 intro c
 induction c using Nat.strongRecOn with
 | _ c ih =>
  intro hc hbc
  by_cases h0 : c = 0
  ·
   subst h0
   rw [zdu, decide_eq_true_iff] at hbc
   subst hbc; exact hab
  ·
   obtain ⟨_, hu, _⟩ := h.par (Nat.pos_of_ne_zero h0) hc
   rcases (zdn h b (Nat.pos_of_ne_zero h0) hc).1 hbc with rfl | hb
   ·
    exact hab
   ·
    exact (zdn h a (Nat.pos_of_ne_zero h0) hc).2 (.inr (ih _ hu (by omega) hb))
end
section
open Go.RowKit
def neL (x : Nd) : List Value := (rc x.root).toList ++ ([.int .i64 x.parent] ++ ([num x.slot] ++ ([num x.just])))
def ne (x : Nd) : Array Value := (neL x).toArray
theorem zkg (x : Nd) : (ne x).toList = neL x := rfl
theorem yj6 (x : Nd) : (neL x).length = 35 := by simp [neL, zal]
theorem zmk (x : Nd) : (ne x).size = 35 := by rw [← Array.length_toList, zkg, yj6]
theorem yka (x : Nd) : ∀ v ∈ neL x, v.oneCell' = true := by
 intro v hv
 unfold neL at hv
 simp only [List.mem_append, List.mem_singleton] at hv
 rcases hv with hv | rfl | rfl | rfl
 ·
  exact zfz _ v hv
 ·
  rfl
 ·
  rfl
 ·
  rfl
@[go_sem] theorem yur (x : Nd) : okA 35 (.agg (ne x)) = true := by
 show ((ne x).size == 35 && (ne x).all (·.oneCell')) = true
 rw [show (ne x).all (·.oneCell') = true from ze6 (yka x), zmk]; rfl
def zne : Nd := ⟨zr, 0, 0, 0⟩
theorem z0c (w : World) : (zeroValue 57).run Tryz.prog w = .ok (.agg (ne zne)) w := by kernel_rfl
@[go_sem ↓] theorem ytw (ρ : Operand → Value) (dst : Option Tmp) (x : Operand) (ty : TypeId) (pos : String) (after : Array Edge) (guard : Option (Nat × Bool)) (w : World) :
  (execOp ρ { dst, op := .load 57 x, type := ty, pos, after, guard }).run Tryz.prog w = zh7 (ldA w (ρ x) 35) w (za4 Tryz.prog ρ { dst, op := .load 57 x, type := ty, pos, after, guard } w) :=
 zbh Tryz.isAgg57 Tryz.sizeOf57 ρ dst x ty pos after guard w
@[go_sem ↓] theorem yr4 (ρ : Operand → Value) (dst : Option Tmp) (x y : Operand) (ty : TypeId) (pos : String) (after : Array Edge) (guard : Option (Nat × Bool)) (w : World) :
  (execOp ρ { dst, op := .store 57 x y, type := ty, pos, after, guard }).run Tryz.prog w = zh8 (wrA w (ρ x) 35 && okA 35 (ρ y)) (stA w (ρ x) (ρ y)) (za4 Tryz.prog ρ { dst, op := .store 57 x y, type := ty, pos, after, guard } w) :=
 za7 Tryz.sizeOf57 ρ dst x y ty pos after guard w
@[go_sem ↓] theorem yst (ρ : Operand → Value) (dst : Option Tmp) (ty : TypeId) (pos : String) (after : Array Edge) (guard : Option (Nat × Bool)) (w : World) :
  (execOp ρ { dst, op := .alloc 57, type := ty, pos, after, guard }).run Tryz.prog w = .ok (.value (.pointer (some ⟨w.heap.size, 0, none⟩))) (w.alloc (.cells (ne zne) 57)) := by
 unfold execOp
 simp only [Instr.alloc, Sem.run_bind, z0c, Result.andThen_ok]
 rfl
def places_ne : List (Nat × Nat) := [(0, 32), (32, 1), (33, 1), (34, 1)]
theorem z9e : ∀ w : World, ((Tryz.prog.fieldsOf 57).mapM (m := Sem) fun f => do pure (f.offset, ← Go.sizeOf f.type)).run Tryz.prog w = .ok places_ne.toArray w := fun _ => by kernel_rfl
theorem z25 : Tryz.prog.underlying 57 = some (.struct (Tryz.prog.fieldsOf 57)) := by kernel_rfl
theorem ymv : (Tryz.prog.fieldsOf 57).toList.map (fun f => (f.name, f.type, f.offset)) = [("Root", 23, 0), ("Parent", 3, 32), ("Slot", 30, 33), ("Just", 30, 34)] := by kernel_rfl
@[go_sem ↓] theorem ysu (ρ : Operand → Value) (dst : Option Tmp) (p : Nat × Operand) (ps : List (Nat × Operand)) (ty : TypeId) (pos : String) (after : Array Edge) (guard : Option (Nat × Bool)) (w : World) :
  (execOp ρ { dst, op := .build 57 (p :: ps).toArray, type := ty, pos, after, guard }).run Tryz.prog w = zgr ((zhi places_ne (ne zne) ((p.1, ρ p.2) :: ps.map fun p => (p.1, ρ p.2))).map .agg) w (za4 Tryz.prog ρ { dst, op := .build 57 (p :: ps).toArray, type := ty, pos, after, guard } w) :=
 zb2 z0c z25 z9e ρ dst (p :: ps).toArray ty pos after guard w
attribute [go_sem] places_ne zmk
theorem zfp (x : Nd) : neL x = ([]) ++ ((rc x.root).toList ++ ([.int .i64 x.parent] ++ ([num x.slot] ++ ([num x.just])))) ∧ ([] : List Value).length = 0 := by
 constructor
 ·
  unfold neL; simp
 ·
  rfl
theorem zqj (x : Nd) : (ne x).extract 0 (0 + 32) = rc x.root := zci (zfp x).1 (zfp x).2 (zal _)
theorem z8g {w : World} {b off : Nat} {x : Nd} (h : w.rangeAt b off (neL x)) : ldA w (.pointer (some ⟨b, off + 0, none⟩)) 32 = some (rc x.root) := zcs h (zfp x).1 (zfp x).2 (zal _)
theorem zko {w : World} {g : Nat} {t : TypeId} {fr : Nat × Nat} {x : Nd} (h : w.heap[g]? = some (.cells (ne x) t fr)) : ldA w (.pointer (some ⟨g, 0, none⟩)) 32 = some (rc x.root) := by have := z8g (x := x) (zah h); rwa [Nat.zero_add] at this
@[go_sem] theorem yly (w : World) (t : TypeId) (b : Nat) (x : Nd) (hb : b = w.heap.size) : ldA (w.alloc (.cells (ne x) t)) (.pointer (some ⟨b, 0, none⟩)) 32 = some (rc x.root) := by subst hb; exact zko (heap_alloc_last w _)
theorem z05 (x : Nd) (y : Rt) : zat (ne x) 0 (rc y) = ne { x with root := y } := by
 rw [zau (c := ne x) (zfp x).1 (zfp x).2 (by simp [zal])]
 simp [ne, neL]
theorem zdx (x : Nd) : neL x = ((rc x.root).toList) ++ ([.int .i64 x.parent] ++ ([num x.slot] ++ ([num x.just]))) ∧ ((rc x.root).toList : List Value).length = 32 := by
 constructor
 ·
  unfold neL; simp
 ·
  simp [zal]
theorem zhl (x : Nd) : (ne x)[32]? = some (.int .i64 x.parent) := zhy (zdx x).1 (zdx x).2
theorem znx {w : World} {b off : Nat} {x : Nd} (h : w.rangeAt b off (neL x)) : w.cell? ⟨b, off + 32, none⟩ = some (.int .i64 x.parent) := zbd h (zdx x).1 (zdx x).2
theorem zvm {w : World} {g : Nat} {t : TypeId} {fr : Nat × Nat} {x : Nd} (h : w.heap[g]? = some (.cells (ne x) t fr)) : w.cell? ⟨g, 32, none⟩ = some (.int .i64 x.parent) := by have := znx (x := x) (zah h); rwa [Nat.zero_add] at this
theorem zku (x : Nd) (y : Int) : zat (ne x) 32 #[.int .i64 y] = ne { x with parent := y } := by
 rw [zau (c := ne x) (r := #[.int .i64 y]) (zdx x).1 (zdx x).2 rfl]
 simp [ne, neL]
theorem zfo (x : Nd) : neL x = ((rc x.root).toList ++ [.int .i64 x.parent]) ++ ([num x.slot] ++ ([num x.just])) ∧ ((rc x.root).toList ++ [.int .i64 x.parent] : List Value).length = 33 := by
 constructor
 ·
  unfold neL; simp
 ·
  simp [zal]
theorem zpj (x : Nd) : (ne x)[33]? = some (num x.slot) := zhy (zfo x).1 (zfo x).2
theorem zs3 {w : World} {b off : Nat} {x : Nd} (h : w.rangeAt b off (neL x)) : w.cell? ⟨b, off + 33, none⟩ = some (num x.slot) := zbd h (zfo x).1 (zfo x).2
theorem z2t {w : World} {g : Nat} {t : TypeId} {fr : Nat × Nat} {x : Nd} (h : w.heap[g]? = some (.cells (ne x) t fr)) : w.cell? ⟨g, 33, none⟩ = some (num x.slot) := by have := zs3 (x := x) (zah h); rwa [Nat.zero_add] at this
theorem zrd (x : Nd) (y : UInt64) : zat (ne x) 33 #[num y] = ne { x with slot := y } := by
 rw [zau (c := ne x) (r := #[num y]) (zfo x).1 (zfo x).2 rfl]
 simp [ne, neL]
theorem zfm (x : Nd) : neL x = ((rc x.root).toList ++ [.int .i64 x.parent] ++ [num x.slot]) ++ ([num x.just] ++ ([])) ∧ ((rc x.root).toList ++ [.int .i64 x.parent] ++ [num x.slot] : List Value).length = 34 := by
 constructor
 ·
  unfold neL; simp
 ·
  simp [zal]
theorem zpn (x : Nd) : (ne x)[34]? = some (num x.just) := zhy (zfm x).1 (zfm x).2
theorem z7z {w : World} {b off : Nat} {x : Nd} (h : w.rangeAt b off (neL x)) : w.cell? ⟨b, off + 34, none⟩ = some (num x.just) := zbd h (zfm x).1 (zfm x).2
theorem z1q {w : World} {g : Nat} {t : TypeId} {fr : Nat × Nat} {x : Nd} (h : w.heap[g]? = some (.cells (ne x) t fr)) : w.cell? ⟨g, 34, none⟩ = some (num x.just) := by have := z7z (x := x) (zah h); rwa [Nat.zero_add] at this
theorem zps (x : Nd) (y : UInt64) : zat (ne x) 34 #[num y] = ne { x with just := y } := by
 rw [zau (c := ne x) (r := #[num y]) (zfm x).1 (zfm x).2 rfl]
 simp [ne, neL]
@[go_sem] theorem zvu (x : Nd) (y : Int) : (ne x).setIfInBounds 32 (.int .i64 y) = ne { x with parent := y } := by
 rw [za1 (by rw [zmk]; decide)]; exact zku x y
attribute [go_sem] z05 zku zrd zps
@[go_sem] theorem ykr (x : Nd) (y : UInt64) : zat (ne x) 33 #[.int .u64 (y.toNat : Int)] = ne { x with slot := y } := zrd x y
@[go_sem] theorem yk2 (x : Nd) (y : UInt64) : zat (ne x) 34 #[.int .u64 (y.toNat : Int)] = ne { x with just := y } := zps x y
theorem yqg (d : Nat) (x y : Nd) (w : World) : (Op.equalIn (d + 3) 57 (.agg (ne x)) (.agg (ne y))).run Tryz.prog w = .ok (decide (x = y)) w := by
 rw [show d + 3 = (d + 2) + 1 from rfl, run_equalIn_struct w (d + 2) _ _ _ z25 (by kernel_rfl)]
 rw [zcf ymv (by decide) (zxd _ _ _ (zqj x) w) (zxd _ _ _ (zqj y) w) (yh7 (d + 0) _ _ w)
  (fun _ h1 => zcf h1 (by decide) (yfs _ _ _ (zhl x) w) (yfs _ _ _ (zhl y) w) (yrz (d + 1) _ _ w)
  (fun _ h2 => zcf h2 (by decide) (zok _ _ _ (zpj x) w) (zok _ _ _ (zpj y) w) (z8n (d + 1) _ _ w)
  (fun _ h3 => zcf h3 (by decide) (zok _ _ _ (zpn x) w) (zok _ _ _ (zpn y) w) (z8n (d + 1) _ _ w)
  (fun _ hn => zp8 hn))))]
 congr 1
 rw [Bool.eq_iff_iff]
 simp only [Bool.and_eq_true, decide_eq_true_iff, and_true]
 exact ⟨fun h => Nd.ext h.1 h.2.1 h.2.2.1 h.2.2.2, fun h => by subst h; exact ⟨rfl, rfl, rfl, rfl⟩⟩
@[go_sem ↓] theorem yuz (x y : Nd) (w : World) : (Op.equalIn 10000 57 (.agg (ne x)) (.agg (ne y))).run Tryz.prog w = .ok (decide (x = y)) w := yqg 9997 x y w
section
open Go.WideShapes Go.ChangeShapes
variable {H : Type} {enc : TypeId × Value → H} {w : World} {base : Nat} {sp : Nat → Bool} {held : Bool}
end
def Ene : Lie Nd := ⟨57, 35, neL, by decide, yj6, yka⟩
attribute [irreducible] ne
end
section
open Go.RowKit
theorem ymc : (Tryz.prog.info? 57).map (fun i => (i.zero, i.size, i.bytes)) = some (some (.agg (ne zne)), 35, 56) := by kernel_rfl
@[go_sem ↓] theorem yfj (ρ : Operand → Value) (dst : Option Tmp) (x : Operand) (ty : TypeId) (pos : String) (after : Array Edge) (guard : Option (Nat × Bool)) (w : World) (hx : okA 35 (ρ x) = true) :
  (execOp ρ { dst, op := .buildSlice 26 1 #[(0, x)], type := ty, pos, after, guard }).run Tryz.prog w = .ok (.value (.slice (some ⟨w.heap.size, 0, none⟩) 1 1)) (w.alloc (.cells (zgk (ρ x)) 57)) := by
 obtain ⟨c, hc, hn⟩ : ∃ c, ρ x = .agg c ∧ c.size = 35 := by
  unfold okA at hx
  split at hx
  ·
   rename_i c hc
   rw [Bool.and_eq_true, beq_iff_eq] at hx
   exact ⟨c, hc, hx.1⟩
  ·
   cases hx
 have hp : (1 * 35 > 2 ^ 24) = False := by simp
 have h0 : (1 * 35 = 0) = False := by simp
 unfold execOp
 simp only [Instr.buildSlice, Sem.run_bind, run_underlying Tryz.underlying26, Result.andThen_ok, Tryz.sizeOf57, hp, h0, if_false, z0c, Value.cells]
 simp only [List.map_toArray, List.map_cons, List.map_nil, hc, Instr.fill, Value.cells, hn, Nat.zero_mul]
 simp [zgk]
 rw [zie _ c (by simp [hn])]
 rfl
section
open Go.WideShapes Go.ChangeShapes
variable {H : Type} {enc : TypeId × Value → H} {w : World} {base : Nat} {sp : Nat → Bool} {held : Bool}
end
end
section
open Go.RowKit
structure Tr where
 n : SlV
def trL (x : Tr) : List Value := [sv x.n]
def tr (x : Tr) : Array Value := (trL x).toArray
theorem zmp (x : Tr) : (tr x).toList = trL x := rfl
theorem yq9 (x : Tr) : (trL x).length = 1 := by simp [trL]
theorem za5 (x : Tr) : (tr x).size = 1 := by rw [← Array.length_toList, zmp, yq9]
theorem yaa (x : Tr) : ∀ v ∈ trL x, v.oneCell' = true := by
 intro v hv
 unfold trL at hv
 simp only [List.mem_singleton] at hv
 rcases hv with rfl
 ·
  rfl
@[go_sem] theorem yud (x : Tr) : okA 1 (.agg (tr x)) = true := by
 show ((tr x).size == 1 && (tr x).all (·.oneCell')) = true
 rw [show (tr x).all (·.oneCell') = true from ze6 (yaa x), za5]; rfl
def ztr : Tr := ⟨⟨none, 0, 0⟩⟩
theorem z1w (w : World) : (zeroValue 28).run Tryz.prog w = .ok (.agg (tr ztr)) w := by kernel_rfl
@[go_sem ↓] theorem yt5 (ρ : Operand → Value) (dst : Option Tmp) (x : Operand) (ty : TypeId) (pos : String) (after : Array Edge) (guard : Option (Nat × Bool)) (w : World) :
  (execOp ρ { dst, op := .load 28 x, type := ty, pos, after, guard }).run Tryz.prog w = zh7 (ldA w (ρ x) 1) w (za4 Tryz.prog ρ { dst, op := .load 28 x, type := ty, pos, after, guard } w) :=
 zbh Tryz.isAgg28 Tryz.sizeOf28 ρ dst x ty pos after guard w
@[go_sem ↓] theorem ysg (ρ : Operand → Value) (dst : Option Tmp) (x y : Operand) (ty : TypeId) (pos : String) (after : Array Edge) (guard : Option (Nat × Bool)) (w : World) :
  (execOp ρ { dst, op := .store 28 x y, type := ty, pos, after, guard }).run Tryz.prog w = zh8 (wrA w (ρ x) 1 && okA 1 (ρ y)) (stA w (ρ x) (ρ y)) (za4 Tryz.prog ρ { dst, op := .store 28 x y, type := ty, pos, after, guard } w) :=
 za7 Tryz.sizeOf28 ρ dst x y ty pos after guard w
@[go_sem ↓] theorem ys0 (ρ : Operand → Value) (dst : Option Tmp) (ty : TypeId) (pos : String) (after : Array Edge) (guard : Option (Nat × Bool)) (w : World) :
  (execOp ρ { dst, op := .alloc 28, type := ty, pos, after, guard }).run Tryz.prog w = .ok (.value (.pointer (some ⟨w.heap.size, 0, none⟩))) (w.alloc (.cells (tr ztr) 28)) := by
 unfold execOp
 simp only [Instr.alloc, Sem.run_bind, z1w, Result.andThen_ok]
 rfl
def places_tr : List (Nat × Nat) := [(0, 1)]
theorem zy4 : ∀ w : World, ((Tryz.prog.fieldsOf 28).mapM (m := Sem) fun f => do pure (f.offset, ← Go.sizeOf f.type)).run Tryz.prog w = .ok places_tr.toArray w := fun _ => by kernel_rfl
theorem z4r : Tryz.prog.underlying 28 = some (.struct (Tryz.prog.fieldsOf 28)) := by kernel_rfl
@[go_sem ↓] theorem ysi (ρ : Operand → Value) (dst : Option Tmp) (p : Nat × Operand) (ps : List (Nat × Operand)) (ty : TypeId) (pos : String) (after : Array Edge) (guard : Option (Nat × Bool)) (w : World) :
  (execOp ρ { dst, op := .build 28 (p :: ps).toArray, type := ty, pos, after, guard }).run Tryz.prog w = zgr ((zhi places_tr (tr ztr) ((p.1, ρ p.2) :: ps.map fun p => (p.1, ρ p.2))).map .agg) w (za4 Tryz.prog ρ { dst, op := .build 28 (p :: ps).toArray, type := ty, pos, after, guard } w) :=
 zb2 z1w z4r zy4 ρ dst (p :: ps).toArray ty pos after guard w
@[go_sem ↓] theorem yq2 (ρ : Operand → Value) (dst : Option Tmp) (ty : TypeId) (pos : String) (after : Array Edge) (guard : Option (Nat × Bool)) (w : World) :
  (execOp ρ { dst, op := .build 28 #[], type := ty, pos, after, guard }).run Tryz.prog w = .ok (.value (.agg (tr ztr))) w :=
 zb2 z1w z4r zy4 ρ dst #[] ty pos after guard w
attribute [go_sem] places_tr za5
theorem zmj (x : Tr) : trL x = ([]) ++ ([sv x.n] ++ ([])) ∧ ([] : List Value).length = 0 := by
 constructor
 ·
  unfold trL; simp
 ·
  rfl
theorem yiz (x : Tr) : (tr x)[0]? = some (sv x.n) := zhy (zmj x).1 (zmj x).2
@[go_sem] theorem ytt (x : Tr) (h : 0 < (tr x).size) : (tr x)[0]'h = sv x.n := by have := yiz x; rw [Array.getElem?_eq_getElem h] at this; exact Option.some.inj this
theorem z1x {w : World} {b off : Nat} {x : Tr} (h : w.rangeAt b off (trL x)) : w.cell? ⟨b, off + 0, none⟩ = some (sv x.n) := zbd h (zmj x).1 (zmj x).2
theorem yik {w : World} {g : Nat} {t : TypeId} {fr : Nat × Nat} {x : Tr} (h : w.heap[g]? = some (.cells (tr x) t fr)) : w.cell? ⟨g, 0, none⟩ = some (sv x.n) := by have := z1x (x := x) (zah h); rwa [Nat.zero_add] at this
theorem zl5 (x : Tr) (y : SlV) : zat (tr x) 0 #[sv y] = tr { x with n := y } := by
 rw [zau (c := tr x) (r := #[sv y]) (zmj x).1 (zmj x).2 rfl]
 simp [tr, trL]
@[go_sem] theorem yhn (x : Tr) (y : SlV) : (tr x).setIfInBounds 0 (sv y) = tr { x with n := y } := by
 rw [za1 (by rw [za5]; decide)]; exact zl5 x y
@[go_sem] theorem z83 (x : Tr) (p : Option Addr) (k c : Nat) : (tr x).setIfInBounds 0 (.slice p k c) = tr { x with n := ⟨p, k, c⟩ } := by
 rw [za1 (by rw [za5]; decide)]; exact zl5 x ⟨p, k, c⟩
attribute [go_sem] zl5
@[go_sem] theorem ypb (x : Tr) (p : Option Addr) (k c : Nat) : zat (tr x) 0 #[.slice p k c] = tr { x with n := ⟨p, k, c⟩ } := zl5 x ⟨p, k, c⟩
section
open Go.WideShapes Go.ChangeShapes
variable {H : Type} {enc : TypeId × Value → H} {w : World} {base : Nat} {sp : Nat → Bool} {held : Bool}
end
attribute [irreducible] tr
end
end Go.Proofs.YtmihlihlpdkdcaaGreat
