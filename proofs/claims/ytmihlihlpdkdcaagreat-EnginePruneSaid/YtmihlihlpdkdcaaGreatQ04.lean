import Derived.Test.YtmihlihlpdkdcaaGreatQ03
namespace Go.Proofs.YtmihlihlpdkdcaaGreat
open Go.RowKit
set_option maxRecDepth 200000
set_option maxHeartbeats 64000000
section
open Go.RowKit
structure Tr where
 n : SlV
def trL (x : Tr) : List Value := [sv x.n]
def tr (x : Tr) : Array Value := (trL x).toArray
theorem zmf (x : Tr) : (tr x).toList = trL x := rfl
theorem yts (x : Tr) : (trL x).length = 1 := by simp [trL]
theorem zbf (x : Tr) : (tr x).size = 1 := by rw [← Array.length_toList, zmf, yts]
theorem yhh (x : Tr) : ∀ v ∈ trL x, v.oneCell' = true := by
 intro v hv
 unfold trL at hv
 simp only [List.mem_singleton] at hv
 rcases hv with rfl
 ·
  rfl
@[go_sem] theorem yyy (x : Tr) : okA 1 (.agg (tr x)) = true := by
 show ((tr x).size == 1 && (tr x).all (·.oneCell')) = true
 rw [show (tr x).all (·.oneCell') = true from zf1 (yhh x), zbf]; rfl
def ztr : Tr := ⟨⟨none, 0, 0⟩⟩
theorem z2z (w : World) : (zeroValue 28).run Tryz.prog w = .ok (.agg (tr ztr)) w := by kernel_rfl
@[go_sem ↓] theorem yxl (ρ : Operand → Value) (dst : Option Tmp) (x : Operand) (ty : TypeId) (pos : String) (after : Array Edge) (guard : Option (Nat × Bool)) (w : World) :
  (execOp ρ { dst, op := .load 28 x, type := ty, pos, after, guard }).run Tryz.prog w = zje (ldA w (ρ x) 1) w (zbe Tryz.prog ρ { dst, op := .load 28 x, type := ty, pos, after, guard } w) :=
 zbp Tryz.isAgg28 Tryz.sizeOf28 ρ dst x ty pos after guard w
@[go_sem ↓] theorem ywp (ρ : Operand → Value) (dst : Option Tmp) (x y : Operand) (ty : TypeId) (pos : String) (after : Array Edge) (guard : Option (Nat × Bool)) (w : World) :
  (execOp ρ { dst, op := .store 28 x y, type := ty, pos, after, guard }).run Tryz.prog w = zjf (wrA w (ρ x) 1 && okA 1 (ρ y)) (stA w (ρ x) (ρ y)) (zbe Tryz.prog ρ { dst, op := .store 28 x y, type := ty, pos, after, guard } w) :=
 zbh Tryz.sizeOf28 ρ dst x y ty pos after guard w
@[go_sem ↓] theorem yw2 (ρ : Operand → Value) (dst : Option Tmp) (ty : TypeId) (pos : String) (after : Array Edge) (guard : Option (Nat × Bool)) (w : World) :
  (execOp ρ { dst, op := .alloc 28, type := ty, pos, after, guard }).run Tryz.prog w = .ok (.value (.pointer (some ⟨w.heap.size, 0, none⟩))) (w.alloc (.cells (tr ztr) 28)) := by
 unfold execOp
 simp only [Instr.alloc, Sem.run_bind, z2z, Result.andThen_ok]
 rfl
def places_tr : List (Nat × Nat) := [(0, 1)]
theorem z2b : ∀ w : World, ((Tryz.prog.fieldsOf 28).mapM (m := Sem) fun f => do pure (f.offset, ← Go.sizeOf f.type)).run Tryz.prog w = .ok places_tr.toArray w := fun _ => by kernel_rfl
theorem zw6 : Tryz.prog.underlying 28 = some (.struct (Tryz.prog.fieldsOf 28)) := by kernel_rfl
theorem ypg : (Tryz.prog.fieldsOf 28).toList.map (fun f => (f.name, f.type, f.offset)) = [("N", 26, 0)] := by kernel_rfl
@[go_sem ↓] theorem yxa (ρ : Operand → Value) (dst : Option Tmp) (p : Nat × Operand) (ps : List (Nat × Operand)) (ty : TypeId) (pos : String) (after : Array Edge) (guard : Option (Nat × Bool)) (w : World) :
  (execOp ρ { dst, op := .build 28 (p :: ps).toArray, type := ty, pos, after, guard }).run Tryz.prog w = zhu ((zi1 places_tr (tr ztr) ((p.1, ρ p.2) :: ps.map fun p => (p.1, ρ p.2))).map .agg) w (zbe Tryz.prog ρ { dst, op := .build 28 (p :: ps).toArray, type := ty, pos, after, guard } w) :=
 zcb z2z zw6 z2b ρ dst (p :: ps).toArray ty pos after guard w
@[go_sem ↓] theorem yt8 (ρ : Operand → Value) (dst : Option Tmp) (ty : TypeId) (pos : String) (after : Array Edge) (guard : Option (Nat × Bool)) (w : World) :
  (execOp ρ { dst, op := .build 28 #[], type := ty, pos, after, guard }).run Tryz.prog w = .ok (.value (.agg (tr ztr))) w :=
 zcb z2z zw6 z2b ρ dst #[] ty pos after guard w
attribute [go_sem] places_tr zbf
theorem zpl (x : Tr) : trL x = ([]) ++ ([sv x.n] ++ ([])) ∧ ([] : List Value).length = 0 := by
 constructor
 ·
  unfold trL; simp
 ·
  rfl
theorem yik (x : Tr) : (tr x)[0]? = some (sv x.n) := zh9 (zpl x).1 (zpl x).2
@[go_sem] theorem yxk (x : Tr) (h : 0 < (tr x).size) : (tr x)[0]'h = sv x.n := by have := yik x; rw [Array.getElem?_eq_getElem h] at this; exact Option.some.inj this
theorem z5b {w : World} {b off : Nat} {x : Tr} (h : w.rangeAt b off (trL x)) : w.cell? ⟨b, off + 0, none⟩ = some (sv x.n) := zbj h (zpl x).1 (zpl x).2
theorem yiv {w : World} {g : Nat} {t : TypeId} {fr : Nat × Nat} {x : Tr} (h : w.heap[g]? = some (.cells (tr x) t fr)) : w.cell? ⟨g, 0, none⟩ = some (sv x.n) := by have := z5b (x := x) (zai h); rwa [Nat.zero_add] at this
theorem zn4 (x : Tr) (y : SlV) : zax (tr x) 0 #[sv y] = tr { x with n := y } := by
 rw [za0 (c := tr x) (r := #[sv y]) (zpl x).1 (zpl x).2 rfl]
 simp [tr, trL]
@[go_sem] theorem ylw (x : Tr) (y : SlV) : (tr x).setIfInBounds 0 (sv y) = tr { x with n := y } := by
 rw [za9 (by rw [zbf]; decide)]; exact zn4 x y
@[go_sem] theorem yg9 (x : Tr) (p : Option Addr) (k c : Nat) : (tr x).setIfInBounds 0 (.slice p k c) = tr { x with n := ⟨p, k, c⟩ } := by
 rw [za9 (by rw [zbf]; decide)]; exact zn4 x ⟨p, k, c⟩
attribute [go_sem] zn4
@[go_sem] theorem ytv (x : Tr) (p : Option Addr) (k c : Nat) : zax (tr x) 0 #[.slice p k c] = tr { x with n := ⟨p, k, c⟩ } := zn4 x ⟨p, k, c⟩
theorem ya6 : Tryz.prog.cellsOf 28 = 1 := by kernel_rfl
section
open Go.WideShapes Go.ChangeShapes
variable {H : Type} {enc : TypeId × Value → H} {w : World} {base : Nat} {sp : Nat → Bool} {held : Bool}
theorem yll {fuel : Nat} {cs : List Value} {x : DataW H × List MemPlace} (hl : cs.length = 1) (h : DataW.trod enc Tryz.prog w base sp held fuel 28 cs = some x) : ∃ a : Tr, cs = trL a ∧ (∃ l, SlE Ene w (sv a.n) l) := by
 obtain ⟨_, _, h0⟩ := zaw (i := 0) zw6 ypg rfl h
 rw [show Tryz.prog.cellsOf 26 = 1 from by kernel_rfl] at h0
 obtain ⟨a0, e0, k0⟩ := yc6 h0
 refine ⟨⟨a0⟩, ?_, k0⟩
 unfold trL
 have j0 := zbc cs 0 1
 rw [e0] at j0
 have jl : cs.drop 1 = [] := List.drop_of_length_le (by omega)
 rw [show (0 + 1) = 1 from rfl, jl, List.append_nil] at j0
 rw [← List.drop_zero (l := cs)]
 rw [← j0]
 try rfl
end
attribute [irreducible] tr
end
section
open Go.RowKit
structure Lt where
 has : Bool
 root : Rt
 epoch : UInt64
theorem Lt.ext {x y : Lt} (h0 : x.has = y.has) (h1 : x.root = y.root) (h2 : x.epoch = y.epoch) : x = y := by cases x; cases y; simp_all
instance : DecidableEq Lt := fun x y => decidable_of_iff (x.has = y.has ∧ x.root = y.root ∧ x.epoch = y.epoch) ⟨fun h => Lt.ext h.1 h.2.1 h.2.2, fun h => by subst h; exact ⟨rfl, rfl, rfl⟩⟩
def ltL (x : Lt) : List Value := [.bool x.has] ++ ((rc x.root).toList ++ ([num x.epoch]))
def lt (x : Lt) : Array Value := (ltL x).toArray
theorem zxy (x : Lt) : (lt x).toList = ltL x := rfl
theorem yoh (x : Lt) : (ltL x).length = 34 := by simp [ltL, zar]
theorem ztg (x : Lt) : (lt x).size = 34 := by rw [← Array.length_toList, zxy, yoh]
theorem yoi (x : Lt) : ∀ v ∈ ltL x, v.oneCell' = true := by
 intro v hv
 unfold ltL at hv
 simp only [List.mem_append, List.mem_singleton] at hv
 rcases hv with rfl | hv | rfl
 ·
  rfl
 ·
  exact zg9 _ v hv
 ·
  rfl
@[go_sem] theorem yyp (x : Lt) : okA 34 (.agg (lt x)) = true := by
 show ((lt x).size == 34 && (lt x).all (·.oneCell')) = true
 rw [show (lt x).all (·.oneCell') = true from zf1 (yoi x), ztg]; rfl
def zlt : Lt := ⟨false, zr, 0⟩
theorem z31 (w : World) : (zeroValue 108).run Tryz.prog w = .ok (.agg (lt zlt)) w := by kernel_rfl
@[go_sem ↓] theorem yx5 (ρ : Operand → Value) (dst : Option Tmp) (x : Operand) (ty : TypeId) (pos : String) (after : Array Edge) (guard : Option (Nat × Bool)) (w : World) :
  (execOp ρ { dst, op := .load 108 x, type := ty, pos, after, guard }).run Tryz.prog w = zje (ldA w (ρ x) 34) w (zbe Tryz.prog ρ { dst, op := .load 108 x, type := ty, pos, after, guard } w) :=
 zbp Tryz.isAgg108 Tryz.sizeOf108 ρ dst x ty pos after guard w
@[go_sem ↓] theorem ywh (ρ : Operand → Value) (dst : Option Tmp) (x y : Operand) (ty : TypeId) (pos : String) (after : Array Edge) (guard : Option (Nat × Bool)) (w : World) :
  (execOp ρ { dst, op := .store 108 x y, type := ty, pos, after, guard }).run Tryz.prog w = zjf (wrA w (ρ x) 34 && okA 34 (ρ y)) (stA w (ρ x) (ρ y)) (zbe Tryz.prog ρ { dst, op := .store 108 x y, type := ty, pos, after, guard } w) :=
 zbh Tryz.sizeOf108 ρ dst x y ty pos after guard w
@[go_sem ↓] theorem yw0 (ρ : Operand → Value) (dst : Option Tmp) (ty : TypeId) (pos : String) (after : Array Edge) (guard : Option (Nat × Bool)) (w : World) :
  (execOp ρ { dst, op := .alloc 108, type := ty, pos, after, guard }).run Tryz.prog w = .ok (.value (.pointer (some ⟨w.heap.size, 0, none⟩))) (w.alloc (.cells (lt zlt) 108)) := by
 unfold execOp
 simp only [Instr.alloc, Sem.run_bind, z31, Result.andThen_ok]
 rfl
def places_lt : List (Nat × Nat) := [(0, 1), (1, 32), (33, 1)]
theorem z18 : ∀ w : World, ((Tryz.prog.fieldsOf 108).mapM (m := Sem) fun f => do pure (f.offset, ← Go.sizeOf f.type)).run Tryz.prog w = .ok places_lt.toArray w := fun _ => by kernel_rfl
theorem zii : Tryz.prog.underlying 108 = some (.struct (Tryz.prog.fieldsOf 108)) := by kernel_rfl
theorem zxm : (Tryz.prog.fieldsOf 108).toList.map (fun f => (f.name, f.type, f.offset)) = [("Has", 4, 0), ("Root", 23, 1), ("Epoch", 30, 33)] := by kernel_rfl
@[go_sem ↓] theorem yw4 (ρ : Operand → Value) (dst : Option Tmp) (p : Nat × Operand) (ps : List (Nat × Operand)) (ty : TypeId) (pos : String) (after : Array Edge) (guard : Option (Nat × Bool)) (w : World) :
  (execOp ρ { dst, op := .build 108 (p :: ps).toArray, type := ty, pos, after, guard }).run Tryz.prog w = zhu ((zi1 places_lt (lt zlt) ((p.1, ρ p.2) :: ps.map fun p => (p.1, ρ p.2))).map .agg) w (zbe Tryz.prog ρ { dst, op := .build 108 (p :: ps).toArray, type := ty, pos, after, guard } w) :=
 zcb z31 zii z18 ρ dst (p :: ps).toArray ty pos after guard w
@[go_sem ↓] theorem yup (ρ : Operand → Value) (dst : Option Tmp) (ty : TypeId) (pos : String) (after : Array Edge) (guard : Option (Nat × Bool)) (w : World) :
  (execOp ρ { dst, op := .build 108 #[], type := ty, pos, after, guard }).run Tryz.prog w = .ok (.value (.agg (lt zlt))) w :=
 zcb z31 zii z18 ρ dst #[] ty pos after guard w
attribute [go_sem] places_lt ztg
theorem zh4 (x : Lt) : ltL x = ([]) ++ ([.bool x.has] ++ ((rc x.root).toList ++ ([num x.epoch]))) ∧ ([] : List Value).length = 0 := by
 constructor
 ·
  unfold ltL; simp
 ·
  rfl
theorem zof (x : Lt) : (lt x)[0]? = some (.bool x.has) := zh9 (zh4 x).1 (zh4 x).2
theorem yh1 {w : World} {b off : Nat} {x : Lt} (h : w.rangeAt b off (ltL x)) : w.cell? ⟨b, off + 0, none⟩ = some (.bool x.has) := zbj h (zh4 x).1 (zh4 x).2
theorem zux {w : World} {g : Nat} {t : TypeId} {fr : Nat × Nat} {x : Lt} (h : w.heap[g]? = some (.cells (lt x) t fr)) : w.cell? ⟨g, 0, none⟩ = some (.bool x.has) := by have := yh1 (x := x) (zai h); rwa [Nat.zero_add] at this
theorem z9n (x : Lt) (y : Bool) : zax (lt x) 0 #[.bool y] = lt { x with has := y } := by
 rw [za0 (c := lt x) (r := #[.bool y]) (zh4 x).1 (zh4 x).2 rfl]
 simp [lt, ltL]
theorem zgv (x : Lt) : ltL x = ([.bool x.has]) ++ ((rc x.root).toList ++ ([num x.epoch])) ∧ ([.bool x.has] : List Value).length = 1 := by
 constructor
 ·
  unfold ltL; simp
 ·
  simp
theorem zsd (x : Lt) : (lt x).extract 1 (1 + 32) = rc x.root := zcx (zgv x).1 (zgv x).2 (zar _)
theorem z9x {w : World} {b off : Nat} {x : Lt} (h : w.rangeAt b off (ltL x)) : ldA w (.pointer (some ⟨b, off + 1, none⟩)) 32 = some (rc x.root) := zc3 h (zgv x).1 (zgv x).2 (zar _)
theorem zsh {w : World} {g : Nat} {t : TypeId} {fr : Nat × Nat} {x : Lt} (h : w.heap[g]? = some (.cells (lt x) t fr)) : ldA w (.pointer (some ⟨g, 1, none⟩)) 32 = some (rc x.root) := by have := z9x (x := x) (zai h); rwa [Nat.zero_add] at this
theorem z36 (x : Lt) (y : Rt) : zax (lt x) 1 (rc y) = lt { x with root := y } := by
 rw [za0 (c := lt x) (zgv x).1 (zgv x).2 (by simp [zar])]
 simp [lt, ltL]
theorem zfi (x : Lt) : ltL x = ([.bool x.has] ++ (rc x.root).toList) ++ ([num x.epoch] ++ ([])) ∧ ([.bool x.has] ++ (rc x.root).toList : List Value).length = 33 := by
 constructor
 ·
  unfold ltL; simp
 ·
  simp [zar]
theorem zqd (x : Lt) : (lt x)[33]? = some (num x.epoch) := zh9 (zfi x).1 (zfi x).2
theorem z4b {w : World} {b off : Nat} {x : Lt} (h : w.rangeAt b off (ltL x)) : w.cell? ⟨b, off + 33, none⟩ = some (num x.epoch) := zbj h (zfi x).1 (zfi x).2
theorem z0o {w : World} {g : Nat} {t : TypeId} {fr : Nat × Nat} {x : Lt} (h : w.heap[g]? = some (.cells (lt x) t fr)) : w.cell? ⟨g, 33, none⟩ = some (num x.epoch) := by have := z4b (x := x) (zai h); rwa [Nat.zero_add] at this
theorem zpy (x : Lt) (y : UInt64) : zax (lt x) 33 #[num y] = lt { x with epoch := y } := by
 rw [za0 (c := lt x) (r := #[num y]) (zfi x).1 (zfi x).2 rfl]
 simp [lt, ltL]
attribute [go_sem] z9n z36 zpy
@[go_sem] theorem yj7 (x : Lt) (y : UInt64) : zax (lt x) 33 #[.int .u64 (y.toNat : Int)] = lt { x with epoch := y } := zpy x y
theorem yvl (d : Nat) (x y : Lt) (w : World) : (Op.equalIn (d + 3) 108 (.agg (lt x)) (.agg (lt y))).run Tryz.prog w = .ok (decide (x = y)) w := by
 rw [show d + 3 = (d + 2) + 1 from rfl, run_equalIn_struct w (d + 2) _ _ _ zii (by kernel_rfl)]
 rw [zcq zxm (by decide) (ywd _ _ _ (zof x) w) (ywd _ _ _ (zof y) w) (yyi (d + 1) _ _ w)
  (fun _ h1 => zcq h1 (by decide) (zz6 _ _ _ (zsd x) w) (zz6 _ _ _ (zsd y) w) (yku (d + 0) _ _ w)
  (fun _ h2 => zcq h2 (by decide) (zqm _ _ _ (zqd x) w) (zqm _ _ _ (zqd y) w) (ya9 (d + 1) _ _ w)
  (fun _ hn => zuc hn)))]
 congr 1
 rw [Bool.eq_iff_iff]
 simp only [Bool.and_eq_true, decide_eq_true_iff, and_true]
 exact ⟨fun h => Lt.ext h.1 h.2.1 h.2.2, fun h => by subst h; exact ⟨rfl, rfl, rfl⟩⟩
@[go_sem ↓] theorem yy8 (x y : Lt) (w : World) : (Op.equalIn 10000 108 (.agg (lt x)) (.agg (lt y))).run Tryz.prog w = .ok (decide (x = y)) w := yvl 9997 x y w
theorem zv6 : Tryz.prog.cellsOf 108 = 34 := by kernel_rfl
section
open Go.WideShapes Go.ChangeShapes
variable {H : Type} {enc : TypeId × Value → H} {w : World} {base : Nat} {sp : Nat → Bool} {held : Bool}
theorem ymh {fuel : Nat} {cs : List Value} {x : DataW H × List MemPlace} (hl : cs.length = 34) (h : DataW.trod enc Tryz.prog w base sp held fuel 108 cs = some x) : ∃ a : Lt, cs = ltL a := by
 obtain ⟨_, _, h0⟩ := zaw (i := 0) zii zxm rfl h
 rw [z5k] at h0
 obtain ⟨a0, e0⟩ := yhz h0
 obtain ⟨_, _, h1⟩ := zaw (i := 1) zii zxm rfl h
 rw [zc7] at h1
 obtain ⟨a1, e1⟩ := zek h1
 obtain ⟨_, _, h2⟩ := zaw (i := 2) zii zxm rfl h
 rw [zb9] at h2
 obtain ⟨a2, e2⟩ := zdh h2
 refine ⟨⟨a0, a1, a2⟩, ?_⟩
 unfold ltL
 have j0 := zbc cs 0 1
 rw [e0] at j0
 have j1 := zbc cs 1 32
 rw [e1] at j1
 have j2 := zbc cs 33 1
 rw [e2] at j2
 have jl : cs.drop 34 = [] := List.drop_of_length_le (by omega)
 rw [show (33 + 1) = 34 from rfl, jl, List.append_nil] at j2
 rw [← List.drop_zero (l := cs)]
 rw [← j0]
 rw [show cs.drop (0 + 1) = cs.drop 1 from rfl, ← j1]
 rw [show cs.drop (1 + 32) = cs.drop 33 from rfl, ← j2]
 try rfl
end
def Elt : Lie Lt := ⟨108, 34, ltL, by decide, yoh, yoi⟩
attribute [irreducible] lt
end
section
open Go.RowKit
theorem yfu : (Tryz.prog.info? 108).map (fun i => (i.zero, i.size, i.bytes)) = some (some (.agg (lt zlt)), 34, 48) := by kernel_rfl
section
open Go.WideShapes Go.ChangeShapes
variable {H : Type} {enc : TypeId × Value → H} {w : World} {base : Nat} {sp : Nat → Bool} {held : Bool}
theorem ymy {fuel : Nat} {v : Value} {x : DataW H × List MemPlace} (h : DataW.trod enc Tryz.prog w base sp held fuel 29 [v] = some x) : ∃ l : List Lt, SlE Elt w v l :=
 zmd Tryz.underlying29 zv6 (fun _ cs _ h => ymh (by obtain ⟨_, _, _, _, hl, _⟩ := DataW.trod_struct zii h; rw [hl, zv6]) h) h
theorem ye3 {fuel : Nat} {cs : List Value} {x : DataW H × List MemPlace} (h : DataW.trod enc Tryz.prog w base sp held fuel 29 cs = some x) : ∃ s : SlV, cs = [sv s] ∧ ∃ l : List Lt, SlE Elt w (sv s) l := by
 rcases Deep.open_slice Tryz.underlying29 h with ⟨h1, _⟩ | ⟨a', len', cap', _, _, _, _, h1, _⟩
 ·
  subst h1
  exact ⟨⟨none, 0, 0⟩, rfl, [], zbt _ _ _ _⟩
 ·
  subst h1
  exact ⟨⟨some a', len', cap'⟩, rfl, ymy h⟩
end
end
section
open Go.RowKit
structure Vo where
 l : SlV
 out : UInt64
def voL (x : Vo) : List Value := [sv x.l] ++ ([num x.out])
def vo (x : Vo) : Array Value := (voL x).toArray
theorem zsk (x : Vo) : (vo x).toList = voL x := rfl
theorem yua (x : Vo) : (voL x).length = 2 := by simp [voL]
theorem zaz (x : Vo) : (vo x).size = 2 := by rw [← Array.length_toList, zsk, yua]
theorem ynr (x : Vo) : ∀ v ∈ voL x, v.oneCell' = true := by
 intro v hv
 unfold voL at hv
 simp only [List.mem_append, List.mem_singleton] at hv
 rcases hv with rfl | rfl
 ·
  rfl
 ·
  rfl
@[go_sem] theorem yy7 (x : Vo) : okA 2 (.agg (vo x)) = true := by
 show ((vo x).size == 2 && (vo x).all (·.oneCell')) = true
 rw [show (vo x).all (·.oneCell') = true from zf1 (ynr x), zaz]; rfl
def zvo : Vo := ⟨⟨none, 0, 0⟩, 0⟩
theorem z3l (w : World) : (zeroValue 32).run Tryz.prog w = .ok (.agg (vo zvo)) w := by kernel_rfl
@[go_sem ↓] theorem yyf (ρ : Operand → Value) (dst : Option Tmp) (x : Operand) (ty : TypeId) (pos : String) (after : Array Edge) (guard : Option (Nat × Bool)) (w : World) :
  (execOp ρ { dst, op := .load 32 x, type := ty, pos, after, guard }).run Tryz.prog w = zje (ldA w (ρ x) 2) w (zbe Tryz.prog ρ { dst, op := .load 32 x, type := ty, pos, after, guard } w) :=
 zbp Tryz.isAgg32 Tryz.sizeOf32 ρ dst x ty pos after guard w
@[go_sem ↓] theorem yxc (ρ : Operand → Value) (dst : Option Tmp) (x y : Operand) (ty : TypeId) (pos : String) (after : Array Edge) (guard : Option (Nat × Bool)) (w : World) :
  (execOp ρ { dst, op := .store 32 x y, type := ty, pos, after, guard }).run Tryz.prog w = zjf (wrA w (ρ x) 2 && okA 2 (ρ y)) (stA w (ρ x) (ρ y)) (zbe Tryz.prog ρ { dst, op := .store 32 x y, type := ty, pos, after, guard } w) :=
 zbh Tryz.sizeOf32 ρ dst x y ty pos after guard w
@[go_sem ↓] theorem ywj (ρ : Operand → Value) (dst : Option Tmp) (ty : TypeId) (pos : String) (after : Array Edge) (guard : Option (Nat × Bool)) (w : World) :
  (execOp ρ { dst, op := .alloc 32, type := ty, pos, after, guard }).run Tryz.prog w = .ok (.value (.pointer (some ⟨w.heap.size, 0, none⟩))) (w.alloc (.cells (vo zvo) 32)) := by
 unfold execOp
 simp only [Instr.alloc, Sem.run_bind, z3l, Result.andThen_ok]
 rfl
def places_vo : List (Nat × Nat) := [(0, 1), (1, 1)]
theorem z14 : ∀ w : World, ((Tryz.prog.fieldsOf 32).mapM (m := Sem) fun f => do pure (f.offset, ← Go.sizeOf f.type)).run Tryz.prog w = .ok places_vo.toArray w := fun _ => by kernel_rfl
theorem zqt : Tryz.prog.underlying 32 = some (.struct (Tryz.prog.fieldsOf 32)) := by kernel_rfl
theorem ydn : (Tryz.prog.fieldsOf 32).toList.map (fun f => (f.name, f.type, f.offset)) = [("L", 29, 0), ("Out", 30, 1)] := by kernel_rfl
@[go_sem ↓] theorem yxf (ρ : Operand → Value) (dst : Option Tmp) (p : Nat × Operand) (ps : List (Nat × Operand)) (ty : TypeId) (pos : String) (after : Array Edge) (guard : Option (Nat × Bool)) (w : World) :
  (execOp ρ { dst, op := .build 32 (p :: ps).toArray, type := ty, pos, after, guard }).run Tryz.prog w = zhu ((zi1 places_vo (vo zvo) ((p.1, ρ p.2) :: ps.map fun p => (p.1, ρ p.2))).map .agg) w (zbe Tryz.prog ρ { dst, op := .build 32 (p :: ps).toArray, type := ty, pos, after, guard } w) :=
 zcb z3l zqt z14 ρ dst (p :: ps).toArray ty pos after guard w
@[go_sem ↓] theorem yvu (ρ : Operand → Value) (dst : Option Tmp) (ty : TypeId) (pos : String) (after : Array Edge) (guard : Option (Nat × Bool)) (w : World) :
  (execOp ρ { dst, op := .build 32 #[], type := ty, pos, after, guard }).run Tryz.prog w = .ok (.value (.agg (vo zvo))) w :=
 zcb z3l zqt z14 ρ dst #[] ty pos after guard w
attribute [go_sem] places_vo zaz
theorem zo7 (x : Vo) : voL x = ([]) ++ ([sv x.l] ++ ([num x.out])) ∧ ([] : List Value).length = 0 := by
 constructor
 ·
  unfold voL; simp
 ·
  rfl
theorem ykh (x : Vo) : (vo x)[0]? = some (sv x.l) := zh9 (zo7 x).1 (zo7 x).2
@[go_sem] theorem yxj (x : Vo) (h : 0 < (vo x).size) : (vo x)[0]'h = sv x.l := by have := ykh x; rw [Array.getElem?_eq_getElem h] at this; exact Option.some.inj this
theorem ye4 {w : World} {b off : Nat} {x : Vo} (h : w.rangeAt b off (voL x)) : w.cell? ⟨b, off + 0, none⟩ = some (sv x.l) := zbj h (zo7 x).1 (zo7 x).2
theorem yjv {w : World} {g : Nat} {t : TypeId} {fr : Nat × Nat} {x : Vo} (h : w.heap[g]? = some (.cells (vo x) t fr)) : w.cell? ⟨g, 0, none⟩ = some (sv x.l) := by have := ye4 (x := x) (zai h); rwa [Nat.zero_add] at this
theorem zq6 (x : Vo) (y : SlV) : zax (vo x) 0 #[sv y] = vo { x with l := y } := by
 rw [za0 (c := vo x) (r := #[sv y]) (zo7 x).1 (zo7 x).2 rfl]
 simp [vo, voL]
theorem znl (x : Vo) : voL x = ([sv x.l]) ++ ([num x.out] ++ ([])) ∧ ([sv x.l] : List Value).length = 1 := by
 constructor
 ·
  unfold voL; simp
 ·
  simp
theorem ygk {w : World} {b off : Nat} {x : Vo} (h : w.rangeAt b off (voL x)) : w.cell? ⟨b, off + 1, none⟩ = some (num x.out) := zbj h (znl x).1 (znl x).2
theorem ybb {w : World} {g : Nat} {t : TypeId} {fr : Nat × Nat} {x : Vo} (h : w.heap[g]? = some (.cells (vo x) t fr)) : w.cell? ⟨g, 1, none⟩ = some (num x.out) := by have := ygk (x := x) (zai h); rwa [Nat.zero_add] at this
theorem zwl (x : Vo) (y : UInt64) : zax (vo x) 1 #[num y] = vo { x with out := y } := by
 rw [za0 (c := vo x) (r := #[num y]) (znl x).1 (znl x).2 rfl]
 simp [vo, voL]
@[go_sem] theorem yf4 (x : Vo) (p : Option Addr) (k c : Nat) : (vo x).setIfInBounds 0 (.slice p k c) = vo { x with l := ⟨p, k, c⟩ } := by
 rw [za9 (by rw [zaz]; decide)]; exact zq6 x ⟨p, k, c⟩
@[go_sem] theorem z4x (x : Vo) (y : UInt64) : (vo x).setIfInBounds 1 (.int .u64 (y.toNat : Int)) = vo { x with out := y } := by
 rw [za9 (by rw [zaz]; decide)]; exact zwl x y
attribute [go_sem] zq6 zwl
@[go_sem] theorem yuh (x : Vo) (p : Option Addr) (k c : Nat) : zax (vo x) 0 #[.slice p k c] = vo { x with l := ⟨p, k, c⟩ } := zq6 x ⟨p, k, c⟩
theorem yan : Tryz.prog.cellsOf 32 = 2 := by kernel_rfl
section
open Go.WideShapes Go.ChangeShapes
variable {H : Type} {enc : TypeId × Value → H} {w : World} {base : Nat} {sp : Nat → Bool} {held : Bool}
theorem ynh {fuel : Nat} {cs : List Value} {x : DataW H × List MemPlace} (hl : cs.length = 2) (h : DataW.trod enc Tryz.prog w base sp held fuel 32 cs = some x) : ∃ a : Vo, cs = voL a ∧ (∃ l, SlE Elt w (sv a.l) l) := by
 obtain ⟨_, _, h0⟩ := zaw (i := 0) zqt ydn rfl h
 rw [show Tryz.prog.cellsOf 29 = 1 from by kernel_rfl] at h0
 obtain ⟨a0, e0, k0⟩ := ye3 h0
 obtain ⟨_, _, h1⟩ := zaw (i := 1) zqt ydn rfl h
 rw [zb9] at h1
 obtain ⟨a1, e1⟩ := zdh h1
 refine ⟨⟨a0, a1⟩, ?_, k0⟩
 unfold voL
 have j0 := zbc cs 0 1
 rw [e0] at j0
 have j1 := zbc cs 1 1
 rw [e1] at j1
 have jl : cs.drop 2 = [] := List.drop_of_length_le (by omega)
 rw [show (1 + 1) = 2 from rfl, jl, List.append_nil] at j1
 rw [← List.drop_zero (l := cs)]
 rw [← j0]
 rw [show cs.drop (0 + 1) = cs.drop 1 from rfl, ← j1]
 try rfl
end
attribute [irreducible] vo
end
section
open Go.RowKit
structure Ck where
 epoch : UInt64
 root : Rt
theorem Ck.ext {x y : Ck} (h0 : x.epoch = y.epoch) (h1 : x.root = y.root) : x = y := by cases x; cases y; simp_all
instance : DecidableEq Ck := fun x y => decidable_of_iff (x.epoch = y.epoch ∧ x.root = y.root) ⟨fun h => Ck.ext h.1 h.2, fun h => by subst h; exact ⟨rfl, rfl⟩⟩
def ccL (x : Ck) : List Value := [num x.epoch] ++ ((rc x.root).toList)
def cc (x : Ck) : Array Value := (ccL x).toArray
theorem zb3 (x : Ck) : (cc x).toList = ccL x := rfl
theorem yn9 (x : Ck) : (ccL x).length = 33 := by simp [ccL, zar]
theorem za1 (x : Ck) : (cc x).size = 33 := by rw [← Array.length_toList, zb3, yn9]
theorem zm9 (x : Ck) : ∀ v ∈ ccL x, v.oneCell' = true := by
 intro v hv
 unfold ccL at hv
 simp only [List.mem_append, List.mem_singleton] at hv
 rcases hv with rfl | hv
 ·
  rfl
 ·
  exact zg9 _ v hv
@[go_sem] theorem yy1 (x : Ck) : okA 33 (.agg (cc x)) = true := by
 show ((cc x).size == 33 && (cc x).all (·.oneCell')) = true
 rw [show (cc x).all (·.oneCell') = true from zf1 (zm9 x), za1]; rfl
def zcc : Ck := ⟨0, zr⟩
theorem ztb (w : World) : (zeroValue 37).run Tryz.prog w = .ok (.agg (cc zcc)) w := by kernel_rfl
@[go_sem ↓] theorem yx6 (ρ : Operand → Value) (dst : Option Tmp) (x : Operand) (ty : TypeId) (pos : String) (after : Array Edge) (guard : Option (Nat × Bool)) (w : World) :
  (execOp ρ { dst, op := .load 37 x, type := ty, pos, after, guard }).run Tryz.prog w = zje (ldA w (ρ x) 33) w (zbe Tryz.prog ρ { dst, op := .load 37 x, type := ty, pos, after, guard } w) :=
 zbp Tryz.isAgg37 Tryz.sizeOf37 ρ dst x ty pos after guard w
@[go_sem ↓] theorem ywo (ρ : Operand → Value) (dst : Option Tmp) (x y : Operand) (ty : TypeId) (pos : String) (after : Array Edge) (guard : Option (Nat × Bool)) (w : World) :
  (execOp ρ { dst, op := .store 37 x y, type := ty, pos, after, guard }).run Tryz.prog w = zjf (wrA w (ρ x) 33 && okA 33 (ρ y)) (stA w (ρ x) (ρ y)) (zbe Tryz.prog ρ { dst, op := .store 37 x y, type := ty, pos, after, guard } w) :=
 zbh Tryz.sizeOf37 ρ dst x y ty pos after guard w
@[go_sem ↓] theorem ywx (ρ : Operand → Value) (dst : Option Tmp) (ty : TypeId) (pos : String) (after : Array Edge) (guard : Option (Nat × Bool)) (w : World) :
  (execOp ρ { dst, op := .alloc 37, type := ty, pos, after, guard }).run Tryz.prog w = .ok (.value (.pointer (some ⟨w.heap.size, 0, none⟩))) (w.alloc (.cells (cc zcc) 37)) := by
 unfold execOp
 simp only [Instr.alloc, Sem.run_bind, ztb, Result.andThen_ok]
 rfl
def places_cc : List (Nat × Nat) := [(0, 1), (1, 32)]
theorem ydt : ∀ w : World, ((Tryz.prog.fieldsOf 37).mapM (m := Sem) fun f => do pure (f.offset, ← Go.sizeOf f.type)).run Tryz.prog w = .ok places_cc.toArray w := fun _ => by kernel_rfl
theorem zir : Tryz.prog.underlying 37 = some (.struct (Tryz.prog.fieldsOf 37)) := by kernel_rfl
theorem zxg : (Tryz.prog.fieldsOf 37).toList.map (fun f => (f.name, f.type, f.offset)) = [("Epoch", 30, 0), ("Root", 23, 1)] := by kernel_rfl
@[go_sem ↓] theorem yxh (ρ : Operand → Value) (dst : Option Tmp) (p : Nat × Operand) (ps : List (Nat × Operand)) (ty : TypeId) (pos : String) (after : Array Edge) (guard : Option (Nat × Bool)) (w : World) :
  (execOp ρ { dst, op := .build 37 (p :: ps).toArray, type := ty, pos, after, guard }).run Tryz.prog w = zhu ((zi1 places_cc (cc zcc) ((p.1, ρ p.2) :: ps.map fun p => (p.1, ρ p.2))).map .agg) w (zbe Tryz.prog ρ { dst, op := .build 37 (p :: ps).toArray, type := ty, pos, after, guard } w) :=
 zcb ztb zir ydt ρ dst (p :: ps).toArray ty pos after guard w
attribute [go_sem] places_cc za1
theorem ziq (x : Ck) : ccL x = ([]) ++ ([num x.epoch] ++ ((rc x.root).toList)) ∧ ([] : List Value).length = 0 := by
 constructor
 ·
  unfold ccL; simp
 ·
  rfl
theorem zhe (x : Ck) : (cc x)[0]? = some (num x.epoch) := zh9 (ziq x).1 (ziq x).2
theorem zfe {w : World} {b off : Nat} {x : Ck} (h : w.rangeAt b off (ccL x)) : w.cell? ⟨b, off + 0, none⟩ = some (num x.epoch) := zbj h (ziq x).1 (ziq x).2
theorem zp8 {w : World} {g : Nat} {t : TypeId} {fr : Nat × Nat} {x : Ck} (h : w.heap[g]? = some (.cells (cc x) t fr)) : w.cell? ⟨g, 0, none⟩ = some (num x.epoch) := by have := zfe (x := x) (zai h); rwa [Nat.zero_add] at this
theorem zgp (x : Ck) : ccL x = ([num x.epoch]) ++ ((rc x.root).toList ++ ([])) ∧ ([num x.epoch] : List Value).length = 1 := by
 constructor
 ·
  unfold ccL; simp
 ·
  simp
theorem zin (x : Ck) : (cc x).extract 1 (1 + 32) = rc x.root := zcx (zgp x).1 (zgp x).2 (zar _)
theorem zgn {w : World} {b off : Nat} {x : Ck} (h : w.rangeAt b off (ccL x)) : ldA w (.pointer (some ⟨b, off + 1, none⟩)) 32 = some (rc x.root) := zc3 h (zgp x).1 (zgp x).2 (zar _)
theorem zff {w : World} {g : Nat} {t : TypeId} {fr : Nat × Nat} {x : Ck} (h : w.heap[g]? = some (.cells (cc x) t fr)) : ldA w (.pointer (some ⟨g, 1, none⟩)) 32 = some (rc x.root) := by have := zgn (x := x) (zai h); rwa [Nat.zero_add] at this
theorem z3z (x : Ck) (y : Rt) : zax (cc x) 1 (rc y) = cc { x with root := y } := by
 rw [za0 (c := cc x) (zgp x).1 (zgp x).2 (by simp [zar])]
 simp [cc, ccL]
attribute [go_sem] z3z
theorem zjw (c : Array Value) (o : Nat) (r : Ck) (h : c.extract o (o + 33) = cc r) (w : World) : (part 37 c o).run Tryz.prog w = .ok (.agg (cc r)) w := by
 rw [z6g (P := Tryz.prog) Tryz.isAgg37 Tryz.sizeOf37, h]
theorem z0w (d : Nat) (x y : Ck) (w : World) : (Op.equalIn (d + 3) 37 (.agg (cc x)) (.agg (cc y))).run Tryz.prog w = .ok (decide (x = y)) w := by
 rw [show d + 3 = (d + 2) + 1 from rfl, run_equalIn_struct w (d + 2) _ _ _ zir (by kernel_rfl)]
 rw [zcq zxg (by decide) (zqm _ _ _ (zhe x) w) (zqm _ _ _ (zhe y) w) (ya9 (d + 1) _ _ w)
  (fun _ h1 => zcq h1 (by decide) (zz6 _ _ _ (zin x) w) (zz6 _ _ _ (zin y) w) (yku (d + 0) _ _ w)
  (fun _ hn => zuc hn))]
 congr 1
 rw [Bool.eq_iff_iff]
 simp only [Bool.and_eq_true, decide_eq_true_iff, and_true]
 exact ⟨fun h => Ck.ext h.1 h.2, fun h => by subst h; exact ⟨rfl, rfl⟩⟩
@[go_sem ↓] theorem yzb (x y : Ck) (w : World) : (Op.equalIn 10000 37 (.agg (cc x)) (.agg (cc y))).run Tryz.prog w = .ok (decide (x = y)) w := z0w 9997 x y w
theorem zc5 : Tryz.prog.cellsOf 37 = 33 := by kernel_rfl
section
open Go.WideShapes Go.ChangeShapes
variable {H : Type} {enc : TypeId × Value → H} {w : World} {base : Nat} {sp : Nat → Bool} {held : Bool}
theorem zkt {fuel : Nat} {cs : List Value} {x : DataW H × List MemPlace} (hl : cs.length = 33) (h : DataW.trod enc Tryz.prog w base sp held fuel 37 cs = some x) : ∃ a : Ck, cs = ccL a := by
 obtain ⟨_, _, h0⟩ := zaw (i := 0) zir zxg rfl h
 rw [zb9] at h0
 obtain ⟨a0, e0⟩ := zdh h0
 obtain ⟨_, _, h1⟩ := zaw (i := 1) zir zxg rfl h
 rw [zc7] at h1
 obtain ⟨a1, e1⟩ := zek h1
 refine ⟨⟨a0, a1⟩, ?_⟩
 unfold ccL
 have j0 := zbc cs 0 1
 rw [e0] at j0
 have j1 := zbc cs 1 32
 rw [e1] at j1
 have jl : cs.drop 33 = [] := List.drop_of_length_le (by omega)
 rw [show (1 + 32) = 33 from rfl, jl, List.append_nil] at j1
 rw [← List.drop_zero (l := cs)]
 rw [← j0]
 rw [show cs.drop (0 + 1) = cs.drop 1 from rfl, ← j1]
 try rfl
end
def Ecc : Lie Ck := ⟨37, 33, ccL, by decide, yn9, zm9⟩
attribute [irreducible] cc
end
section
open Go.RowKit
structure Aa where
 val : Int
 slot : UInt64
 head : Rt
 source : Ck
 target : Ck
theorem Aa.ext {x y : Aa} (h0 : x.val = y.val) (h1 : x.slot = y.slot) (h2 : x.head = y.head) (h3 : x.source = y.source) (h4 : x.target = y.target) : x = y := by cases x; cases y; simp_all
instance : DecidableEq Aa := fun x y => decidable_of_iff (x.val = y.val ∧ x.slot = y.slot ∧ x.head = y.head ∧ x.source = y.source ∧ x.target = y.target) ⟨fun h => Aa.ext h.1 h.2.1 h.2.2.1 h.2.2.2.1 h.2.2.2.2, fun h => by subst h; exact ⟨rfl, rfl, rfl, rfl, rfl⟩⟩
def aaL (x : Aa) : List Value := [.int .i64 x.val] ++ ([num x.slot] ++ ((rc x.head).toList ++ ((cc x.source).toList ++ ((cc x.target).toList))))
def aa (x : Aa) : Array Value := (aaL x).toArray
theorem zx1 (x : Aa) : (aa x).toList = aaL x := rfl
theorem yo5 (x : Aa) : (aaL x).length = 100 := by simp [aaL, zar, za1]
theorem zfg (x : Aa) : (aa x).size = 100 := by rw [← Array.length_toList, zx1, yo5]
theorem yn4 (x : Aa) : ∀ v ∈ aaL x, v.oneCell' = true := by
 intro v hv
 unfold aaL at hv
 simp only [List.mem_append, List.mem_singleton] at hv
 rcases hv with rfl | rfl | hv | hv | hv
 ·
  rfl
 ·
  rfl
 ·
  exact zg9 _ v hv
 ·
  exact zm9 _ v (by rw [zb3] at hv; exact hv)
 ·
  exact zm9 _ v (by rw [zb3] at hv; exact hv)
@[go_sem] theorem yyr (x : Aa) : okA 100 (.agg (aa x)) = true := by
 show ((aa x).size == 100 && (aa x).all (·.oneCell')) = true
 rw [show (aa x).all (·.oneCell') = true from zf1 (yn4 x), zfg]; rfl
def zaa : Aa := ⟨0, 0, zr, zcc, zcc⟩
theorem ycq (w : World) : (zeroValue 62).run Tryz.prog w = .ok (.agg (aa zaa)) w := by kernel_rfl
@[go_sem ↓] theorem yxo (ρ : Operand → Value) (dst : Option Tmp) (x : Operand) (ty : TypeId) (pos : String) (after : Array Edge) (guard : Option (Nat × Bool)) (w : World) :
  (execOp ρ { dst, op := .load 62 x, type := ty, pos, after, guard }).run Tryz.prog w = zje (ldA w (ρ x) 100) w (zbe Tryz.prog ρ { dst, op := .load 62 x, type := ty, pos, after, guard } w) :=
 zbp Tryz.isAgg62 Tryz.sizeOf62 ρ dst x ty pos after guard w
@[go_sem ↓] theorem yww (ρ : Operand → Value) (dst : Option Tmp) (x y : Operand) (ty : TypeId) (pos : String) (after : Array Edge) (guard : Option (Nat × Bool)) (w : World) :
  (execOp ρ { dst, op := .store 62 x y, type := ty, pos, after, guard }).run Tryz.prog w = zjf (wrA w (ρ x) 100 && okA 100 (ρ y)) (stA w (ρ x) (ρ y)) (zbe Tryz.prog ρ { dst, op := .store 62 x y, type := ty, pos, after, guard } w) :=
 zbh Tryz.sizeOf62 ρ dst x y ty pos after guard w
@[go_sem ↓] theorem ywk (ρ : Operand → Value) (dst : Option Tmp) (ty : TypeId) (pos : String) (after : Array Edge) (guard : Option (Nat × Bool)) (w : World) :
  (execOp ρ { dst, op := .alloc 62, type := ty, pos, after, guard }).run Tryz.prog w = .ok (.value (.pointer (some ⟨w.heap.size, 0, none⟩))) (w.alloc (.cells (aa zaa) 62)) := by
 unfold execOp
 simp only [Instr.alloc, Sem.run_bind, ycq, Result.andThen_ok]
 rfl
theorem zhj : Tryz.prog.underlying 62 = some (.struct (Tryz.prog.fieldsOf 62)) := by kernel_rfl
theorem zov : (Tryz.prog.fieldsOf 62).toList.map (fun f => (f.name, f.type, f.offset)) = [("Val", 3, 0), ("Slot", 30, 1), ("Head", 23, 2), ("Source", 37, 34), ("Target", 37, 67)] := by kernel_rfl
attribute [go_sem] zfg
theorem zmy (x : Aa) : aaL x = ([]) ++ ([.int .i64 x.val] ++ ([num x.slot] ++ ((rc x.head).toList ++ ((cc x.source).toList ++ ((cc x.target).toList))))) ∧ ([] : List Value).length = 0 := by
 constructor
 ·
  unfold aaL; simp
 ·
  rfl
theorem zwm (x : Aa) : (aa x)[0]? = some (.int .i64 x.val) := zh9 (zmy x).1 (zmy x).2
theorem yg7 {w : World} {b off : Nat} {x : Aa} (h : w.rangeAt b off (aaL x)) : w.cell? ⟨b, off + 0, none⟩ = some (.int .i64 x.val) := zbj h (zmy x).1 (zmy x).2
theorem z9c {w : World} {g : Nat} {t : TypeId} {fr : Nat × Nat} {x : Aa} (h : w.heap[g]? = some (.cells (aa x) t fr)) : w.cell? ⟨g, 0, none⟩ = some (.int .i64 x.val) := by have := yg7 (x := x) (zai h); rwa [Nat.zero_add] at this
theorem zkp (x : Aa) : aaL x = ([.int .i64 x.val]) ++ ([num x.slot] ++ ((rc x.head).toList ++ ((cc x.source).toList ++ ((cc x.target).toList)))) ∧ ([.int .i64 x.val] : List Value).length = 1 := by
 constructor
 ·
  unfold aaL; simp
 ·
  simp
theorem ztp (x : Aa) : (aa x)[1]? = some (num x.slot) := zh9 (zkp x).1 (zkp x).2
theorem z9f {w : World} {b off : Nat} {x : Aa} (h : w.rangeAt b off (aaL x)) : w.cell? ⟨b, off + 1, none⟩ = some (num x.slot) := zbj h (zkp x).1 (zkp x).2
theorem zih {w : World} {g : Nat} {t : TypeId} {fr : Nat × Nat} {x : Aa} (h : w.heap[g]? = some (.cells (aa x) t fr)) : w.cell? ⟨g, 1, none⟩ = some (num x.slot) := by have := z9f (x := x) (zai h); rwa [Nat.zero_add] at this
theorem zk0 (x : Aa) : aaL x = ([.int .i64 x.val] ++ [num x.slot]) ++ ((rc x.head).toList ++ ((cc x.source).toList ++ ((cc x.target).toList))) ∧ ([.int .i64 x.val] ++ [num x.slot] : List Value).length = 2 := by
 constructor
 ·
  unfold aaL; simp
 ·
  simp
theorem ztq (x : Aa) : (aa x).extract 2 (2 + 32) = rc x.head := zcx (zk0 x).1 (zk0 x).2 (zar _)
theorem z8e {w : World} {b off : Nat} {x : Aa} (h : w.rangeAt b off (aaL x)) : ldA w (.pointer (some ⟨b, off + 2, none⟩)) 32 = some (rc x.head) := zc3 h (zk0 x).1 (zk0 x).2 (zar _)
theorem z37 {w : World} {g : Nat} {t : TypeId} {fr : Nat × Nat} {x : Aa} (h : w.heap[g]? = some (.cells (aa x) t fr)) : ldA w (.pointer (some ⟨g, 2, none⟩)) 32 = some (rc x.head) := by have := z8e (x := x) (zai h); rwa [Nat.zero_add] at this
theorem zem (x : Aa) : aaL x = ([.int .i64 x.val] ++ [num x.slot] ++ (rc x.head).toList) ++ ((cc x.source).toList ++ ((cc x.target).toList)) ∧ ([.int .i64 x.val] ++ [num x.slot] ++ (rc x.head).toList : List Value).length = 34 := by
 constructor
 ·
  unfold aaL; simp
 ·
  simp [zar]
theorem zmo (x : Aa) : (aa x).extract 34 (34 + 33) = cc x.source := zcx (zem x).1 (zem x).2 (za1 _)
theorem z0e {w : World} {b off : Nat} {x : Aa} (h : w.rangeAt b off (aaL x)) : ldA w (.pointer (some ⟨b, off + 34, none⟩)) 33 = some (cc x.source) := zc3 h (zem x).1 (zem x).2 (za1 _)
theorem zy9 {w : World} {g : Nat} {t : TypeId} {fr : Nat × Nat} {x : Aa} (h : w.heap[g]? = some (.cells (aa x) t fr)) : ldA w (.pointer (some ⟨g, 34, none⟩)) 33 = some (cc x.source) := by have := z0e (x := x) (zai h); rwa [Nat.zero_add] at this
theorem zej (x : Aa) : aaL x = ([.int .i64 x.val] ++ [num x.slot] ++ (rc x.head).toList ++ (cc x.source).toList) ++ ((cc x.target).toList ++ ([])) ∧ ([.int .i64 x.val] ++ [num x.slot] ++ (rc x.head).toList ++ (cc x.source).toList : List Value).length = 67 := by
 constructor
 ·
  unfold aaL; simp
 ·
  simp [zar, za1]
theorem zns (x : Aa) : (aa x).extract 67 (67 + 33) = cc x.target := zcx (zej x).1 (zej x).2 (za1 _)
theorem zzk {w : World} {b off : Nat} {x : Aa} (h : w.rangeAt b off (aaL x)) : ldA w (.pointer (some ⟨b, off + 67, none⟩)) 33 = some (cc x.target) := zc3 h (zej x).1 (zej x).2 (za1 _)
theorem zxc {w : World} {g : Nat} {t : TypeId} {fr : Nat × Nat} {x : Aa} (h : w.heap[g]? = some (.cells (aa x) t fr)) : ldA w (.pointer (some ⟨g, 67, none⟩)) 33 = some (cc x.target) := by have := zzk (x := x) (zai h); rwa [Nat.zero_add] at this
theorem zp4 {w : World} {b off : Nat} {x : Aa} (h : w.rangeAt b off (aaL x)) : w.rangeAt b (off + 34) (ccL x.source) := by
 rw [← zb3]; exact zdk h (zem x).1 (zem x).2
theorem zm8 {w : World} {b off : Nat} {x : Aa} (h : w.rangeAt b off (aaL x)) : w.cell? ⟨b, off + 34, none⟩ = some (num x.source.epoch) := zfe (zp4 h)
theorem zls {w : World} {g : Nat} {t : TypeId} {fr : Nat × Nat} {x : Aa} (h : w.heap[g]? = some (.cells (aa x) t fr)) : w.cell? ⟨g, 34, none⟩ = some (num x.source.epoch) := by have := zm8 (x := x) (zai h); rwa [Nat.zero_add] at this
theorem zoe {w : World} {b off : Nat} {x : Aa} (h : w.rangeAt b off (aaL x)) : ldA w (.pointer (some ⟨b, off + 35, none⟩)) 32 = some (rc x.source.root) := zgn (zp4 h)
theorem zm5 {w : World} {g : Nat} {t : TypeId} {fr : Nat × Nat} {x : Aa} (h : w.heap[g]? = some (.cells (aa x) t fr)) : ldA w (.pointer (some ⟨g, 35, none⟩)) 32 = some (rc x.source.root) := by have := zoe (x := x) (zai h); rwa [Nat.zero_add] at this
theorem zp0 {w : World} {b off : Nat} {x : Aa} (h : w.rangeAt b off (aaL x)) : w.rangeAt b (off + 67) (ccL x.target) := by
 rw [← zb3]; exact zdk h (zej x).1 (zej x).2
theorem zm3 {w : World} {b off : Nat} {x : Aa} (h : w.rangeAt b off (aaL x)) : w.cell? ⟨b, off + 67, none⟩ = some (num x.target.epoch) := zfe (zp0 h)
theorem zl0 {w : World} {g : Nat} {t : TypeId} {fr : Nat × Nat} {x : Aa} (h : w.heap[g]? = some (.cells (aa x) t fr)) : w.cell? ⟨g, 67, none⟩ = some (num x.target.epoch) := by have := zm3 (x := x) (zai h); rwa [Nat.zero_add] at this
theorem zon {w : World} {b off : Nat} {x : Aa} (h : w.rangeAt b off (aaL x)) : ldA w (.pointer (some ⟨b, off + 68, none⟩)) 32 = some (rc x.target.root) := zgn (zp0 h)
theorem znx {w : World} {g : Nat} {t : TypeId} {fr : Nat × Nat} {x : Aa} (h : w.heap[g]? = some (.cells (aa x) t fr)) : ldA w (.pointer (some ⟨g, 68, none⟩)) 32 = some (rc x.target.root) := by have := zon (x := x) (zai h); rwa [Nat.zero_add] at this
theorem yt7 (d : Nat) (x y : Aa) (w : World) : (Op.equalIn (d + 4) 62 (.agg (aa x)) (.agg (aa y))).run Tryz.prog w = .ok (decide (x = y)) w := by
 rw [show d + 4 = (d + 3) + 1 from rfl, run_equalIn_struct w (d + 3) _ _ _ zhj (by kernel_rfl)]
 rw [zcq zov (by decide) (yit _ _ _ (zwm x) w) (yit _ _ _ (zwm y) w) (ytn (d + 2) _ _ w)
  (fun _ h1 => zcq h1 (by decide) (zqm _ _ _ (ztp x) w) (zqm _ _ _ (ztp y) w) (ya9 (d + 2) _ _ w)
  (fun _ h2 => zcq h2 (by decide) (zz6 _ _ _ (ztq x) w) (zz6 _ _ _ (ztq y) w) (yku (d + 1) _ _ w)
  (fun _ h3 => zcq h3 (by decide) (zjw _ _ _ (zmo x) w) (zjw _ _ _ (zmo y) w) (z0w (d + 0) _ _ w)
  (fun _ h4 => zcq h4 (by decide) (zjw _ _ _ (zns x) w) (zjw _ _ _ (zns y) w) (z0w (d + 0) _ _ w)
  (fun _ hn => zuc hn)))))]
 congr 1
 rw [Bool.eq_iff_iff]
 simp only [Bool.and_eq_true, decide_eq_true_iff, and_true]
 exact ⟨fun h => Aa.ext h.1 h.2.1 h.2.2.1 h.2.2.2.1 h.2.2.2.2, fun h => by subst h; exact ⟨rfl, rfl, rfl, rfl, rfl⟩⟩
@[go_sem ↓] theorem yza (x y : Aa) (w : World) : (Op.equalIn 10000 62 (.agg (aa x)) (.agg (aa y))).run Tryz.prog w = .ok (decide (x = y)) w := yt7 9996 x y w
theorem zo1 : Tryz.prog.cellsOf 62 = 100 := by kernel_rfl
section
open Go.WideShapes Go.ChangeShapes
variable {H : Type} {enc : TypeId × Value → H} {w : World} {base : Nat} {sp : Nat → Bool} {held : Bool}
theorem z54 {fuel : Nat} {cs : List Value} {x : DataW H × List MemPlace} (hl : cs.length = 100) (h : DataW.trod enc Tryz.prog w base sp held fuel 62 cs = some x) : ∃ a : Aa, cs = aaL a := by
 obtain ⟨_, _, h0⟩ := zaw (i := 0) zhj zov rfl h
 rw [zl4] at h0
 obtain ⟨a0, e0⟩ := zsf h0
 obtain ⟨_, _, h1⟩ := zaw (i := 1) zhj zov rfl h
 rw [zb9] at h1
 obtain ⟨a1, e1⟩ := zdh h1
 obtain ⟨_, _, h2⟩ := zaw (i := 2) zhj zov rfl h
 rw [zc7] at h2
 obtain ⟨a2, e2⟩ := zek h2
 obtain ⟨_, _, h3⟩ := zaw (i := 3) zhj zov rfl h
 rw [zc5] at h3
 obtain ⟨a3, e3⟩ := zkt (by rw [List.length_take, List.length_drop]; omega) h3
 rw [← zb3] at e3
 obtain ⟨_, _, h4⟩ := zaw (i := 4) zhj zov rfl h
 rw [zc5] at h4
 obtain ⟨a4, e4⟩ := zkt (by rw [List.length_take, List.length_drop]; omega) h4
 rw [← zb3] at e4
 refine ⟨⟨a0, a1, a2, a3, a4⟩, ?_⟩
 unfold aaL
 have j0 := zbc cs 0 1
 rw [e0] at j0
 have j1 := zbc cs 1 1
 rw [e1] at j1
 have j2 := zbc cs 2 32
 rw [e2] at j2
 have j3 := zbc cs 34 33
 rw [e3] at j3
 have j4 := zbc cs 67 33
 rw [e4] at j4
 have jl : cs.drop 100 = [] := List.drop_of_length_le (by omega)
 rw [show (67 + 33) = 100 from rfl, jl, List.append_nil] at j4
 rw [← List.drop_zero (l := cs)]
 rw [← j0]
 rw [show cs.drop (0 + 1) = cs.drop 1 from rfl, ← j1]
 rw [show cs.drop (1 + 1) = cs.drop 2 from rfl, ← j2]
 rw [show cs.drop (2 + 32) = cs.drop 34 from rfl, ← j3]
 rw [show cs.drop (34 + 33) = cs.drop 67 from rfl, ← j4]
 try rfl
theorem open_aa {r : Reach} {b0 : Nat} {v : Value} {d : DataW H} {ps : List MemPlace} (hval : Value.okWide Tryz.prog w r b0 62 v) (hd : DataW.Trod enc Tryz.prog w base sp held 62 v d ps) : ∃ a : Aa, v = .agg (aa a) := by
 obtain ⟨xs, rfl, hn⟩ := okWide_struct zhj hval
 rw [zo1] at hn
 obtain ⟨fuel, hf⟩ := hd
 obtain ⟨a, ha⟩ := z54 (cs := xs.toList) (by rw [Array.length_toList, hn]) hf
 exact ⟨a, by rw [show xs = aa a from Array.toList_inj.1 ha]⟩
end
def Eaa : Lie Aa := ⟨62, 100, aaL, by decide, yo5, yn4⟩
attribute [irreducible] aa
end
end Go.Proofs.YtmihlihlpdkdcaaGreat
