/-
  Integers, numbers of 64 bits and bools as parts of structs: ==, parts, an argument's cells; in any translation that has them.
  Roots as parts of structs: ==, parts; in any translation that has them (integers, numbers, bools: XPn).
  api.Latest: its plain data, its cells, loads, stores, literals, ==, its parts in memory, an argument; in any translation that has it. (written by wip/mkstruct.py)
-/
import Derived.Test.YtccihllcohnnnaaQ09
import Derived.Laws.Small
import Derived.Test.YtccihllcohnnnaaRows
import Derived.ChangeMaps5
import Derived.OpenShut
import Derived.Carry
import Derived.Test.YtccihllcohnnnaaQ02
namespace Go.Proofs.Ytccihllcohnnnaa
open Go.RowKit
set_option maxRecDepth 100000

def num (n : UInt64) : Value := .int .u64 (n.toNat : Int)
attribute [go_sem] num
theorem num_inj {a b : UInt64} (h : num a = num b) : a = b := by
  simp only [num, Value.int.injEq, true_and] at h
  exact UInt64.toNat_inj.1 (by omega)
theorem num_beq (a b : UInt64) : ((a.toNat : Int) == (b.toNat : Int)) = decide (a = b) := by
  rw [Bool.eq_iff_iff, decide_eq_true_iff, beq_iff_eq]
  constructor
  · intro h; exact UInt64.toNat_inj.1 (by omega)
  · intro h; rw [h]
theorem eqNum (n : Nat) (a b : UInt64) (w : World) : (Op.equalIn (n + 1) 26 (num a) (num b)).run Try.prog w = .ok (decide (a = b)) w := by
  unfold num
  rw [run_equalIn_int w n 26 .u64 .u64 _ _ Try.underlying26, num_beq]
theorem eqInt (n : Nat) (a b : Int) (w : World) : (Op.equalIn (n + 1) 3 (.int .i64 a) (.int .i64 b)).run Try.prog w = .ok (decide (a = b)) w := by
  rw [run_equalIn_int w n 3 .i64 .i64 _ _ Try.underlying3]
  rfl
theorem eqBoo (n : Nat) (a b : Bool) (w : World) : (Op.equalIn (n + 1) 4 (.bool a) (.bool b)).run Try.prog w = .ok (decide (a = b)) w := by
  rw [run_equalIn_bool w n 4 _ _ Try.underlying4]
  cases a <;> cases b <;> rfl
theorem partN (c : Array Value) (o : Nat) (n : UInt64) (h : c[o]? = some (num n)) (w : World) : (part 26 c o).run Try.prog w = .ok (num n) w := part_one (P := Try.prog) Try.isAgg26 c o _ h w
theorem partI (c : Array Value) (o : Nat) (n : Int) (h : c[o]? = some (.int .i64 n)) (w : World) : (part 3 c o).run Try.prog w = .ok (.int .i64 n) w := part_one (P := Try.prog) Try.isAgg3 c o _ h w
theorem partB (c : Array Value) (o : Nat) (n : Bool) (h : c[o]? = some (.bool n)) (w : World) : (part 4 c o).run Try.prog w = .ok (.bool n) w := part_one (P := Try.prog) Try.isAgg4 c o _ h w
theorem cellsOf_num : Try.prog.cellsOf 26 = 1 := by kernel_rfl
theorem cellsOf_int : Try.prog.cellsOf 3 = 1 := by kernel_rfl
theorem cellsOf_boo : Try.prog.cellsOf 4 = 1 := by kernel_rfl
def Eint : Lie Int := ⟨3, 1, fun n => [.int .i64 n], by decide, fun _ => rfl, fun _ u h => by rw [List.mem_singleton.1 h]; rfl⟩
def Enum : Lie UInt64 := ⟨26, 1, fun n => [num n], by decide, fun _ => rfl, fun _ u h => by rw [List.mem_singleton.1 h]; rfl⟩
section
open Go.WideShapes Go.ChangeShapes
variable {H : Type} {enc : TypeId × Value → H} {w : World} {base : Nat} {sp : Nat → Bool} {held : Bool}
set_option maxRecDepth 100000 in
theorem cells_num {fuel : Nat} {cs : List Value} {x : DataW H × List MemPlace} (h : DataW.trod enc Try.prog w base sp held fuel 26 cs = some x) : ∃ n : UInt64, cs = [num n] := by
  obtain ⟨n, e1, _, e3⟩ := DataW.trod_int Try.underlying26 h
  have hb : (decide (IntKind.u64.min ≤ n) && decide (n ≤ IntKind.u64.max)) = true := e3
  rw [Bool.and_eq_true, decide_eq_true_eq, decide_eq_true_eq, show IntKind.u64.min = 0 from rfl, show IntKind.u64.max = 18446744073709551615 from rfl] at hb
  refine ⟨UInt64.ofNat n.toNat, ?_⟩
  rw [e1, num, UInt64.toNat_ofNat', Nat.mod_eq_of_lt (by simp; omega)]
  congr 2
  omega
set_option maxRecDepth 100000 in
theorem cells_int {fuel : Nat} {cs : List Value} {x : DataW H × List MemPlace} (h : DataW.trod enc Try.prog w base sp held fuel 3 cs = some x) : ∃ n : Int, cs = [.int .i64 n] := by
  obtain ⟨n, e1, _, _⟩ := DataW.trod_int Try.underlying3 h
  exact ⟨n, e1⟩
set_option maxRecDepth 100000 in
theorem cells_boo {fuel : Nat} {cs : List Value} {x : DataW H × List MemPlace} (h : DataW.trod enc Try.prog w base sp held fuel 4 cs = some x) : ∃ n : Bool, cs = [.bool n] := by
  obtain ⟨n, e1, _⟩ := DataW.trod_bool Try.underlying4 h
  exact ⟨n, e1⟩
end
end Go.Proofs.Ytccihllcohnnnaa
namespace Go.Proofs.Ytccihllcohnnnaa
open Go.RowKit
set_option maxRecDepth 100000

theorem rc_len (r : Rt) : (rc r).toList.length = 32 := by rw [Array.length_toList, rc_size]
theorem eqRtN (n : Nat) (a b : Rt) (w : World) : (Op.equalIn (n + 2) 39 (.agg (rc a)) (.agg (rc b))).run Try.prog w = .ok (decide (a = b)) w := eqRootN n a b w
theorem partR (c : Array Value) (o : Nat) (r : Rt) (h : c.extract o (o + 32) = rc r) (w : World) : (part 39 c o).run Try.prog w = .ok (.agg (rc r)) w := by
  rw [part_agg (P := Try.prog) Try.isAgg39 Try.sizeOf39, h]
theorem cellsOf_root : Try.prog.cellsOf 39 = 32 := by kernel_rfl
def Ert : Lie Rt := ⟨39, 32, fun r => (rc r).toList, by decide, rc_len, rc_ones⟩
end Go.Proofs.Ytccihllcohnnnaa
namespace Go.Proofs.Ytccihllcohnnnaa
open Go.RowKit
set_option maxRecDepth 100000

structure Lt where
  has : Bool
  root : Rt
  epoch : UInt64
theorem Lt.ext {x y : Lt} (h0 : x.has = y.has) (h1 : x.root = y.root) (h2 : x.epoch = y.epoch) : x = y := by cases x; cases y; simp_all
instance : DecidableEq Lt := fun x y => decidable_of_iff (x.has = y.has ∧ x.root = y.root ∧ x.epoch = y.epoch) ⟨fun h => Lt.ext h.1 h.2.1 h.2.2, fun h => by subst h; exact ⟨rfl, rfl, rfl⟩⟩
def ltL (x : Lt) : List Value := [.bool x.has] ++ ((rc x.root).toList ++ ([num x.epoch]))
def lt (x : Lt) : Array Value := (ltL x).toArray
theorem lt_list (x : Lt) : (lt x).toList = ltL x := rfl
theorem lt_len (x : Lt) : (ltL x).length = 34 := by simp [ltL, rc_size]
theorem lt_size (x : Lt) : (lt x).size = 34 := by rw [← Array.length_toList, lt_list, lt_len]
theorem lt_one (x : Lt) : ∀ v ∈ ltL x, v.oneCell' = true := by
  intro v hv
  unfold ltL at hv
  simp only [List.mem_append, List.mem_singleton] at hv
  rcases hv with rfl | hv | rfl
  · rfl
  · exact rc_ones _ v hv
  · rfl
@[go_sem] theorem okA_lt (x : Lt) : okA 34 (.agg (lt x)) = true := by
  show ((lt x).size == 34 && (lt x).all (·.oneCell')) = true
  rw [show (lt x).all (·.oneCell') = true from all_one (lt_one x), lt_size]; rfl
def zlt : Lt := ⟨false, zr, 0⟩
theorem zero_lt (w : World) : (zeroValue 41).run Try.prog w = .ok (.agg (lt zlt)) w := by kernel_rfl
@[go_sem ↓] theorem load_lt (ρ : Operand → Value) (dst : Option Tmp) (x : Operand) (ty : TypeId) (pos : String) (after : Array Edge) (guard : Option (Nat × Bool)) (w : World) :
    (execOp ρ { dst, op := .load 41 x, type := ty, pos, after, guard }).run Try.prog w = ldOut (ldA w (ρ x) 34) w (opRest Try.prog ρ { dst, op := .load 41 x, type := ty, pos, after, guard } w) :=
  run_load_out Try.isAgg41 Try.sizeOf41 ρ dst x ty pos after guard w
@[go_sem ↓] theorem store_lt (ρ : Operand → Value) (dst : Option Tmp) (x y : Operand) (ty : TypeId) (pos : String) (after : Array Edge) (guard : Option (Nat × Bool)) (w : World) :
    (execOp ρ { dst, op := .store 41 x y, type := ty, pos, after, guard }).run Try.prog w = stOut (wrA w (ρ x) 34 && okA 34 (ρ y)) (stA w (ρ x) (ρ y)) (opRest Try.prog ρ { dst, op := .store 41 x y, type := ty, pos, after, guard } w) :=
  run_store_out Try.sizeOf41 ρ dst x y ty pos after guard w
@[go_sem ↓] theorem alloc_lt (ρ : Operand → Value) (dst : Option Tmp) (ty : TypeId) (pos : String) (after : Array Edge) (guard : Option (Nat × Bool)) (w : World) :
    (execOp ρ { dst, op := .alloc 41, type := ty, pos, after, guard }).run Try.prog w = .ok (.value (.pointer (some ⟨w.heap.size, 0, none⟩))) (w.alloc (.cells (lt zlt) 41)) := by
  unfold execOp
  simp only [Instr.alloc, Sem.run_bind, zero_lt, Result.andThen_ok]
  rfl
def places_lt : List (Nat × Nat) := [(0, 1), (1, 32), (33, 1)]
theorem fields_lt : ∀ w : World, ((Try.prog.fieldsOf 41).mapM (m := Sem) fun f => do pure (f.offset, ← Go.sizeOf f.type)).run Try.prog w = .ok places_lt.toArray w := fun _ => by kernel_rfl
theorem under_lt : Try.prog.underlying 41 = some (.struct (Try.prog.fieldsOf 41)) := by kernel_rfl
theorem flds_lt : (Try.prog.fieldsOf 41).toList.map (fun f => (f.name, f.type, f.offset)) = [("Has", 4, 0), ("Root", 39, 1), ("Epoch", 26, 33)] := by kernel_rfl
@[go_sem ↓] theorem build_lt (ρ : Operand → Value) (dst : Option Tmp) (p : Nat × Operand) (ps : List (Nat × Operand)) (ty : TypeId) (pos : String) (after : Array Edge) (guard : Option (Nat × Bool)) (w : World) :
    (execOp ρ { dst, op := .build 41 (p :: ps).toArray, type := ty, pos, after, guard }).run Try.prog w = vOutE ((fillA places_lt (lt zlt) ((p.1, ρ p.2) :: ps.map fun p => (p.1, ρ p.2))).map .agg) w (opRest Try.prog ρ { dst, op := .build 41 (p :: ps).toArray, type := ty, pos, after, guard } w) :=
  build_out zero_lt under_lt fields_lt ρ dst (p :: ps).toArray ty pos after guard w
@[go_sem ↓] theorem build0_lt (ρ : Operand → Value) (dst : Option Tmp) (ty : TypeId) (pos : String) (after : Array Edge) (guard : Option (Nat × Bool)) (w : World) :
    (execOp ρ { dst, op := .build 41 #[], type := ty, pos, after, guard }).run Try.prog w = .ok (.value (.agg (lt zlt))) w :=
  build_out zero_lt under_lt fields_lt ρ dst #[] ty pos after guard w
attribute [go_sem] places_lt lt_size
theorem lt_at_has (x : Lt) : ltL x = ([]) ++ ([.bool x.has] ++ ((rc x.root).toList ++ ([num x.epoch]))) ∧ ([] : List Value).length = 0 := by
  constructor
  · unfold ltL; simp
  · rfl
theorem lt_get_has (x : Lt) : (lt x)[0]? = some (.bool x.has) := get_at (lt_at_has x).1 (lt_at_has x).2
@[go_sem] theorem lt_gi_has (x : Lt) (h : 0 < (lt x).size) : (lt x)[0]'h = .bool x.has := by have := lt_get_has x; rw [Array.getElem?_eq_getElem h] at this; exact Option.some.inj this
theorem lt_rd_has {w : World} {b off : Nat} {x : Lt} (h : w.rangeAt b off (ltL x)) : w.cell? ⟨b, off + 0, none⟩ = some (.bool x.has) := range_one h (lt_at_has x).1 (lt_at_has x).2
theorem lt_rd0_has {w : World} {g : Nat} {t : TypeId} {fr : Nat × Nat} {x : Lt} (h : w.heap[g]? = some (.cells (lt x) t fr)) : w.cell? ⟨g, 0, none⟩ = some (.bool x.has) := by have := lt_rd_has (x := x) (range_block h); rwa [Nat.zero_add] at this
theorem lt_put_has (x : Lt) (y : Bool) : putSeg (lt x) 0 #[.bool y] = lt { x with has := y } := by
  rw [putSeg_mid (c := lt x) (r := #[.bool y]) (lt_at_has x).1 (lt_at_has x).2 rfl]
  simp [lt, ltL]
theorem lt_at_root (x : Lt) : ltL x = ([.bool x.has]) ++ ((rc x.root).toList ++ ([num x.epoch])) ∧ ([.bool x.has] : List Value).length = 1 := by
  constructor
  · unfold ltL; simp
  · simp
theorem lt_get_root (x : Lt) : (lt x).extract 1 (1 + 32) = rc x.root := extract_mid (lt_at_root x).1 (lt_at_root x).2 (rc_size _)
theorem lt_rd_root {w : World} {b off : Nat} {x : Lt} (h : w.rangeAt b off (ltL x)) : ldA w (.pointer (some ⟨b, off + 1, none⟩)) 32 = some (rc x.root) := range_ldA h (lt_at_root x).1 (lt_at_root x).2 (rc_size _)
theorem lt_rd0_root {w : World} {g : Nat} {t : TypeId} {fr : Nat × Nat} {x : Lt} (h : w.heap[g]? = some (.cells (lt x) t fr)) : ldA w (.pointer (some ⟨g, 1, none⟩)) 32 = some (rc x.root) := by have := lt_rd_root (x := x) (range_block h); rwa [Nat.zero_add] at this
@[go_sem] theorem lt_lda_root (w : World) (t : TypeId) (b : Nat) (x : Lt) (hb : b = w.heap.size) : ldA (w.alloc (.cells (lt x) t)) (.pointer (some ⟨b, 1, none⟩)) 32 = some (rc x.root) := by subst hb; exact lt_rd0_root (heap_alloc_last w _)
theorem lt_put_root (x : Lt) (y : Rt) : putSeg (lt x) 1 (rc y) = lt { x with root := y } := by
  rw [putSeg_mid (c := lt x) (lt_at_root x).1 (lt_at_root x).2 (by simp [rc_size])]
  simp [lt, ltL]
theorem lt_at_epoch (x : Lt) : ltL x = ([.bool x.has] ++ (rc x.root).toList) ++ ([num x.epoch] ++ ([])) ∧ ([.bool x.has] ++ (rc x.root).toList : List Value).length = 33 := by
  constructor
  · unfold ltL; simp
  · simp [rc_size]
theorem lt_get_epoch (x : Lt) : (lt x)[33]? = some (num x.epoch) := get_at (lt_at_epoch x).1 (lt_at_epoch x).2
@[go_sem] theorem lt_gi_epoch (x : Lt) (h : 33 < (lt x).size) : (lt x)[33]'h = num x.epoch := by have := lt_get_epoch x; rw [Array.getElem?_eq_getElem h] at this; exact Option.some.inj this
theorem lt_rd_epoch {w : World} {b off : Nat} {x : Lt} (h : w.rangeAt b off (ltL x)) : w.cell? ⟨b, off + 33, none⟩ = some (num x.epoch) := range_one h (lt_at_epoch x).1 (lt_at_epoch x).2
theorem lt_rd0_epoch {w : World} {g : Nat} {t : TypeId} {fr : Nat × Nat} {x : Lt} (h : w.heap[g]? = some (.cells (lt x) t fr)) : w.cell? ⟨g, 33, none⟩ = some (num x.epoch) := by have := lt_rd_epoch (x := x) (range_block h); rwa [Nat.zero_add] at this
theorem lt_put_epoch (x : Lt) (y : UInt64) : putSeg (lt x) 33 #[num y] = lt { x with epoch := y } := by
  rw [putSeg_mid (c := lt x) (r := #[num y]) (lt_at_epoch x).1 (lt_at_epoch x).2 rfl]
  simp [lt, ltL]
@[go_sem] theorem lt_set_has (x : Lt) (y : Bool) : (lt x).setIfInBounds 0 (.bool y) = lt { x with has := y } := by
  rw [setIfInBounds_seg (by rw [lt_size]; decide)]; exact lt_put_has x y
@[go_sem] theorem lt_set_epoch (x : Lt) (y : UInt64) : (lt x).setIfInBounds 33 (num y) = lt { x with epoch := y } := by
  rw [setIfInBounds_seg (by rw [lt_size]; decide)]; exact lt_put_epoch x y
@[go_sem] theorem lt_setn_epoch (x : Lt) (y : UInt64) : (lt x).setIfInBounds 33 (.int .u64 (y.toNat : Int)) = lt { x with epoch := y } := by
  rw [setIfInBounds_seg (by rw [lt_size]; decide)]; exact lt_put_epoch x y
attribute [go_sem] lt_put_has lt_put_root lt_put_epoch
@[go_sem] theorem lt_putn_epoch (x : Lt) (y : UInt64) : putSeg (lt x) 33 #[.int .u64 (y.toNat : Int)] = lt { x with epoch := y } := lt_put_epoch x y
theorem part_lt (c : Array Value) (o : Nat) (r : Lt) (h : c.extract o (o + 34) = lt r) (w : World) : (part 41 c o).run Try.prog w = .ok (.agg (lt r)) w := by
  rw [part_agg (P := Try.prog) Try.isAgg41 Try.sizeOf41, h]
theorem eq_ltN (d : Nat) (x y : Lt) (w : World) : (Op.equalIn (d + 3) 41 (.agg (lt x)) (.agg (lt y))).run Try.prog w = .ok (decide (x = y)) w := by
  rw [show d + 3 = (d + 2) + 1 from rfl, run_equalIn_struct w (d + 2) _ _ _ under_lt (by kernel_rfl)]
  rw [eqF_cons flds_lt (by decide) (partB _ _ _ (lt_get_has x) w) (partB _ _ _ (lt_get_has y) w) (eqBoo (d + 1) _ _ w)
    (fun _ h1 => eqF_cons h1 (by decide) (partR _ _ _ (lt_get_root x) w) (partR _ _ _ (lt_get_root y) w) (eqRtN (d + 0) _ _ w)
    (fun _ h2 => eqF_cons h2 (by decide) (partN _ _ _ (lt_get_epoch x) w) (partN _ _ _ (lt_get_epoch y) w) (eqNum (d + 1) _ _ w)
    (fun _ hn => eqF_nil hn)))]
  congr 1
  rw [Bool.eq_iff_iff]
  simp only [Bool.and_eq_true, decide_eq_true_iff, and_true]
  exact ⟨fun h => Lt.ext h.1 h.2.1 h.2.2, fun h => by subst h; exact ⟨rfl, rfl, rfl⟩⟩
@[go_sem ↓] theorem eq_lt (x y : Lt) (w : World) : (Op.equalIn 10000 41 (.agg (lt x)) (.agg (lt y))).run Try.prog w = .ok (decide (x = y)) w := eq_ltN 9997 x y w
theorem cellsOf_lt : Try.prog.cellsOf 41 = 34 := by kernel_rfl
section
open Go.WideShapes Go.ChangeShapes
variable {H : Type} {enc : TypeId × Value → H} {w : World} {base : Nat} {sp : Nat → Bool} {held : Bool}
set_option maxRecDepth 100000 in
theorem cells_lt {fuel : Nat} {cs : List Value} {x : DataW H × List MemPlace} (hl : cs.length = 34) (h : DataW.trod enc Try.prog w base sp held fuel 41 cs = some x) : ∃ a : Lt, cs = ltL a := by
  obtain ⟨_, _, h0⟩ := trod_field (i := 0) under_lt flds_lt rfl h
  rw [cellsOf_boo] at h0
  obtain ⟨a0, e0⟩ := cells_boo h0
  obtain ⟨_, _, h1⟩ := trod_field (i := 1) under_lt flds_lt rfl h
  rw [cellsOf_root] at h1
  obtain ⟨a1, e1⟩ := cells_root h1
  obtain ⟨_, _, h2⟩ := trod_field (i := 2) under_lt flds_lt rfl h
  rw [cellsOf_num] at h2
  obtain ⟨a2, e2⟩ := cells_num h2
  refine ⟨⟨a0, a1, a2⟩, ?_⟩
  unfold ltL
  have j0 := seg_join cs 0 1
  rw [e0] at j0
  have j1 := seg_join cs 1 32
  rw [e1] at j1
  have j2 := seg_join cs 33 1
  rw [e2] at j2
  have jl : cs.drop 34 = [] := List.drop_of_length_le (by omega)
  rw [show (33 + 1) = 34 from rfl, jl, List.append_nil] at j2
  rw [← List.drop_zero (l := cs)]
  rw [← j0]
  rw [show cs.drop (0 + 1) = cs.drop 1 from rfl, ← j1]
  rw [show cs.drop (1 + 32) = cs.drop 33 from rfl, ← j2]
  try rfl
set_option maxRecDepth 100000 in
theorem open_lt {r : Reach} {b0 : Nat} {v : Value} {d : DataW H} {ps : List MemPlace} (hval : Value.okWide Try.prog w r b0 41 v) (hd : DataW.Trod enc Try.prog w base sp held 41 v d ps) : ∃ a : Lt, v = .agg (lt a) := by
  obtain ⟨xs, rfl, hn⟩ := okWide_struct under_lt hval
  rw [cellsOf_lt] at hn
  obtain ⟨fuel, hf⟩ := hd
  obtain ⟨a, ha⟩ := cells_lt (cs := xs.toList) (by rw [Array.length_toList, hn]) hf
  exact ⟨a, by rw [show xs = lt a from Array.toList_inj.1 ha]⟩
end
def Elt : Lie Lt := ⟨41, 34, ltL, by decide, lt_len, lt_one⟩
attribute [irreducible] lt
end Go.Proofs.Ytccihllcohnnnaa
