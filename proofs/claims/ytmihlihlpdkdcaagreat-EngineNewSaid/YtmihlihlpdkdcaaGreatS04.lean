import Derived.Test.YtmihlihlpdkdcaaGreatS03
import Derived.Below
namespace Go.Proofs.YtmihlihlpdkdcaaGreat
open Go.RowKit
set_option maxRecDepth 200000
set_option maxHeartbeats 64000000
section
open Go.RowKit
structure Lt where
 has : Bool
 root : Rt
 epoch : UInt64
theorem Lt.ext {x y : Lt} (h0 : x.has = y.has) (h1 : x.root = y.root) (h2 : x.epoch = y.epoch) : x = y := by cases x; cases y; simp_all
instance : DecidableEq Lt := fun x y => decidable_of_iff (x.has = y.has ∧ x.root = y.root ∧ x.epoch = y.epoch) ⟨fun h => Lt.ext h.1 h.2.1 h.2.2, fun h => by subst h; exact ⟨rfl, rfl, rfl⟩⟩
def ltL (x : Lt) : List Value := [.bool x.has] ++ ((rc x.root).toList ++ ([num x.epoch]))
def lt (x : Lt) : Array Value := (ltL x).toArray
theorem zt7 (x : Lt) : (lt x).toList = ltL x := rfl
theorem ykj (x : Lt) : (ltL x).length = 34 := by simp [ltL, zal]
theorem zqv (x : Lt) : (lt x).size = 34 := by rw [← Array.length_toList, zt7, ykj]
theorem ykf (x : Lt) : ∀ v ∈ ltL x, v.oneCell' = true := by
 intro v hv
 unfold ltL at hv
 simp only [List.mem_append, List.mem_singleton] at hv
 rcases hv with rfl | hv | rfl
 ·
  rfl
 ·
  exact zfz _ v hv
 ·
  rfl
@[go_sem] theorem yuf (x : Lt) : okA 34 (.agg (lt x)) = true := by
 show ((lt x).size == 34 && (lt x).all (·.oneCell')) = true
 rw [show (lt x).all (·.oneCell') = true from ze6 (ykf x), zqv]; rfl
def zlt : Lt := ⟨false, zr, 0⟩
theorem z0n (w : World) : (zeroValue 108).run Tryz.prog w = .ok (.agg (lt zlt)) w := by kernel_rfl
@[go_sem ↓] theorem ys9 (ρ : Operand → Value) (dst : Option Tmp) (x : Operand) (ty : TypeId) (pos : String) (after : Array Edge) (guard : Option (Nat × Bool)) (w : World) :
  (execOp ρ { dst, op := .load 108 x, type := ty, pos, after, guard }).run Tryz.prog w = zh7 (ldA w (ρ x) 34) w (za4 Tryz.prog ρ { dst, op := .load 108 x, type := ty, pos, after, guard } w) :=
 zbh Tryz.isAgg108 Tryz.sizeOf108 ρ dst x ty pos after guard w
@[go_sem ↓] theorem ysv (ρ : Operand → Value) (dst : Option Tmp) (x y : Operand) (ty : TypeId) (pos : String) (after : Array Edge) (guard : Option (Nat × Bool)) (w : World) :
  (execOp ρ { dst, op := .store 108 x y, type := ty, pos, after, guard }).run Tryz.prog w = zh8 (wrA w (ρ x) 34 && okA 34 (ρ y)) (stA w (ρ x) (ρ y)) (za4 Tryz.prog ρ { dst, op := .store 108 x y, type := ty, pos, after, guard } w) :=
 za7 Tryz.sizeOf108 ρ dst x y ty pos after guard w
@[go_sem ↓] theorem ysf (ρ : Operand → Value) (dst : Option Tmp) (ty : TypeId) (pos : String) (after : Array Edge) (guard : Option (Nat × Bool)) (w : World) :
  (execOp ρ { dst, op := .alloc 108, type := ty, pos, after, guard }).run Tryz.prog w = .ok (.value (.pointer (some ⟨w.heap.size, 0, none⟩))) (w.alloc (.cells (lt zlt) 108)) := by
 unfold execOp
 simp only [Instr.alloc, Sem.run_bind, z0n, Result.andThen_ok]
 rfl
def places_lt : List (Nat × Nat) := [(0, 1), (1, 32), (33, 1)]
theorem zya : ∀ w : World, ((Tryz.prog.fieldsOf 108).mapM (m := Sem) fun f => do pure (f.offset, ← Go.sizeOf f.type)).run Tryz.prog w = .ok places_lt.toArray w := fun _ => by kernel_rfl
theorem zu7 : Tryz.prog.underlying 108 = some (.struct (Tryz.prog.fieldsOf 108)) := by kernel_rfl
theorem ymt : (Tryz.prog.fieldsOf 108).toList.map (fun f => (f.name, f.type, f.offset)) = [("Has", 4, 0), ("Root", 23, 1), ("Epoch", 30, 33)] := by kernel_rfl
@[go_sem ↓] theorem yss (ρ : Operand → Value) (dst : Option Tmp) (p : Nat × Operand) (ps : List (Nat × Operand)) (ty : TypeId) (pos : String) (after : Array Edge) (guard : Option (Nat × Bool)) (w : World) :
  (execOp ρ { dst, op := .build 108 (p :: ps).toArray, type := ty, pos, after, guard }).run Tryz.prog w = zgr ((zhi places_lt (lt zlt) ((p.1, ρ p.2) :: ps.map fun p => (p.1, ρ p.2))).map .agg) w (za4 Tryz.prog ρ { dst, op := .build 108 (p :: ps).toArray, type := ty, pos, after, guard } w) :=
 zb2 z0n zu7 zya ρ dst (p :: ps).toArray ty pos after guard w
@[go_sem ↓] theorem yq0 (ρ : Operand → Value) (dst : Option Tmp) (ty : TypeId) (pos : String) (after : Array Edge) (guard : Option (Nat × Bool)) (w : World) :
  (execOp ρ { dst, op := .build 108 #[], type := ty, pos, after, guard }).run Tryz.prog w = .ok (.value (.agg (lt zlt))) w :=
 zb2 z0n zu7 zya ρ dst #[] ty pos after guard w
attribute [go_sem] places_lt zqv
theorem zg1 (x : Lt) : ltL x = ([]) ++ ([.bool x.has] ++ ((rc x.root).toList ++ ([num x.epoch]))) ∧ ([] : List Value).length = 0 := by
 constructor
 ·
  unfold ltL; simp
 ·
  rfl
theorem zm0 (x : Lt) : (lt x)[0]? = some (.bool x.has) := zhy (zg1 x).1 (zg1 x).2
theorem ybp {w : World} {b off : Nat} {x : Lt} (h : w.rangeAt b off (ltL x)) : w.cell? ⟨b, off + 0, none⟩ = some (.bool x.has) := zbd h (zg1 x).1 (zg1 x).2
theorem zt2 {w : World} {g : Nat} {t : TypeId} {fr : Nat × Nat} {x : Lt} (h : w.heap[g]? = some (.cells (lt x) t fr)) : w.cell? ⟨g, 0, none⟩ = some (.bool x.has) := by have := ybp (x := x) (zah h); rwa [Nat.zero_add] at this
theorem z6q (x : Lt) (y : Bool) : zat (lt x) 0 #[.bool y] = lt { x with has := y } := by
 rw [zau (c := lt x) (r := #[.bool y]) (zg1 x).1 (zg1 x).2 rfl]
 simp [lt, ltL]
theorem zft (x : Lt) : ltL x = ([.bool x.has]) ++ ((rc x.root).toList ++ ([num x.epoch])) ∧ ([.bool x.has] : List Value).length = 1 := by
 constructor
 ·
  unfold ltL; simp
 ·
  simp
theorem zrh (x : Lt) : (lt x).extract 1 (1 + 32) = rc x.root := zci (zft x).1 (zft x).2 (zal _)
theorem z7c {w : World} {b off : Nat} {x : Lt} (h : w.rangeAt b off (ltL x)) : ldA w (.pointer (some ⟨b, off + 1, none⟩)) 32 = some (rc x.root) := zcs h (zft x).1 (zft x).2 (zal _)
theorem zq6 {w : World} {g : Nat} {t : TypeId} {fr : Nat × Nat} {x : Lt} (h : w.heap[g]? = some (.cells (lt x) t fr)) : ldA w (.pointer (some ⟨g, 1, none⟩)) 32 = some (rc x.root) := by have := z7c (x := x) (zah h); rwa [Nat.zero_add] at this
theorem zzx (x : Lt) (y : Rt) : zat (lt x) 1 (rc y) = lt { x with root := y } := by
 rw [zau (c := lt x) (zft x).1 (zft x).2 (by simp [zal])]
 simp [lt, ltL]
theorem zei (x : Lt) : ltL x = ([.bool x.has] ++ (rc x.root).toList) ++ ([num x.epoch] ++ ([])) ∧ ([.bool x.has] ++ (rc x.root).toList : List Value).length = 33 := by
 constructor
 ·
  unfold ltL; simp
 ·
  simp [zal]
theorem zn2 (x : Lt) : (lt x)[33]? = some (num x.epoch) := zhy (zei x).1 (zei x).2
theorem z13 {w : World} {b off : Nat} {x : Lt} (h : w.rangeAt b off (ltL x)) : w.cell? ⟨b, off + 33, none⟩ = some (num x.epoch) := zbd h (zei x).1 (zei x).2
theorem zzk {w : World} {g : Nat} {t : TypeId} {fr : Nat × Nat} {x : Lt} (h : w.heap[g]? = some (.cells (lt x) t fr)) : w.cell? ⟨g, 33, none⟩ = some (num x.epoch) := by have := z13 (x := x) (zah h); rwa [Nat.zero_add] at this
theorem zof (x : Lt) (y : UInt64) : zat (lt x) 33 #[num y] = lt { x with epoch := y } := by
 rw [zau (c := lt x) (r := #[num y]) (zei x).1 (zei x).2 rfl]
 simp [lt, ltL]
attribute [go_sem] z6q zzx zof
@[go_sem] theorem yh1 (x : Lt) (y : UInt64) : zat (lt x) 33 #[.int .u64 (y.toNat : Int)] = lt { x with epoch := y } := zof x y
theorem ypd (d : Nat) (x y : Lt) (w : World) : (Op.equalIn (d + 3) 108 (.agg (lt x)) (.agg (lt y))).run Tryz.prog w = .ok (decide (x = y)) w := by
 rw [show d + 3 = (d + 2) + 1 from rfl, run_equalIn_struct w (d + 2) _ _ _ zu7 (by kernel_rfl)]
 rw [zcf ymt (by decide) (ypz _ _ _ (zm0 x) w) (ypz _ _ _ (zm0 y) w) (ytn (d + 1) _ _ w)
  (fun _ h1 => zcf h1 (by decide) (zxd _ _ _ (zrh x) w) (zxd _ _ _ (zrh y) w) (yh7 (d + 0) _ _ w)
  (fun _ h2 => zcf h2 (by decide) (zok _ _ _ (zn2 x) w) (zok _ _ _ (zn2 y) w) (z8n (d + 1) _ _ w)
  (fun _ hn => zp8 hn)))]
 congr 1
 rw [Bool.eq_iff_iff]
 simp only [Bool.and_eq_true, decide_eq_true_iff, and_true]
 exact ⟨fun h => Lt.ext h.1 h.2.1 h.2.2, fun h => by subst h; exact ⟨rfl, rfl, rfl⟩⟩
@[go_sem ↓] theorem yuu (x y : Lt) (w : World) : (Op.equalIn 10000 108 (.agg (lt x)) (.agg (lt y))).run Tryz.prog w = .ok (decide (x = y)) w := ypd 9997 x y w
section
open Go.WideShapes Go.ChangeShapes
variable {H : Type} {enc : TypeId × Value → H} {w : World} {base : Nat} {sp : Nat → Bool} {held : Bool}
end
def Elt : Lie Lt := ⟨108, 34, ltL, by decide, ykj, ykf⟩
attribute [irreducible] lt
end
section
open Go.RowKit
theorem zzy : (Tryz.prog.info? 108).map (fun i => (i.zero, i.size, i.bytes)) = some (some (.agg (lt zlt)), 34, 48) := by kernel_rfl
section
open Go.WideShapes Go.ChangeShapes
variable {H : Type} {enc : TypeId × Value → H} {w : World} {base : Nat} {sp : Nat → Bool} {held : Bool}
end
end
section
open Go.RowKit
structure Vo where
 l : SlV
 out : UInt64
def voL (x : Vo) : List Value := [sv x.l] ++ ([num x.out])
def vo (x : Vo) : Array Value := (voL x).toArray
theorem zut (x : Vo) : (vo x).toList = voL x := rfl
theorem yrn (x : Vo) : (voL x).length = 2 := by simp [voL]
theorem zas (x : Vo) : (vo x).size = 2 := by rw [← Array.length_toList, zut, yrn]
theorem yku (x : Vo) : ∀ v ∈ voL x, v.oneCell' = true := by
 intro v hv
 unfold voL at hv
 simp only [List.mem_append, List.mem_singleton] at hv
 rcases hv with rfl | rfl
 ·
  rfl
 ·
  rfl
@[go_sem] theorem yum (x : Vo) : okA 2 (.agg (vo x)) = true := by
 show ((vo x).size == 2 && (vo x).all (·.oneCell')) = true
 rw [show (vo x).all (·.oneCell') = true from ze6 (yku x), zas]; rfl
def zvo : Vo := ⟨⟨none, 0, 0⟩, 0⟩
theorem z1u (w : World) : (zeroValue 32).run Tryz.prog w = .ok (.agg (vo zvo)) w := by kernel_rfl
@[go_sem ↓] theorem ytv (ρ : Operand → Value) (dst : Option Tmp) (x : Operand) (ty : TypeId) (pos : String) (after : Array Edge) (guard : Option (Nat × Bool)) (w : World) :
  (execOp ρ { dst, op := .load 32 x, type := ty, pos, after, guard }).run Tryz.prog w = zh7 (ldA w (ρ x) 2) w (za4 Tryz.prog ρ { dst, op := .load 32 x, type := ty, pos, after, guard } w) :=
 zbh Tryz.isAgg32 Tryz.sizeOf32 ρ dst x ty pos after guard w
@[go_sem ↓] theorem ysa (ρ : Operand → Value) (dst : Option Tmp) (x y : Operand) (ty : TypeId) (pos : String) (after : Array Edge) (guard : Option (Nat × Bool)) (w : World) :
  (execOp ρ { dst, op := .store 32 x y, type := ty, pos, after, guard }).run Tryz.prog w = zh8 (wrA w (ρ x) 2 && okA 2 (ρ y)) (stA w (ρ x) (ρ y)) (za4 Tryz.prog ρ { dst, op := .store 32 x y, type := ty, pos, after, guard } w) :=
 za7 Tryz.sizeOf32 ρ dst x y ty pos after guard w
@[go_sem ↓] theorem ysz (ρ : Operand → Value) (dst : Option Tmp) (ty : TypeId) (pos : String) (after : Array Edge) (guard : Option (Nat × Bool)) (w : World) :
  (execOp ρ { dst, op := .alloc 32, type := ty, pos, after, guard }).run Tryz.prog w = .ok (.value (.pointer (some ⟨w.heap.size, 0, none⟩))) (w.alloc (.cells (vo zvo) 32)) := by
 unfold execOp
 simp only [Instr.alloc, Sem.run_bind, z1u, Result.andThen_ok]
 rfl
def places_vo : List (Nat × Nat) := [(0, 1), (1, 1)]
theorem zx4 : ∀ w : World, ((Tryz.prog.fieldsOf 32).mapM (m := Sem) fun f => do pure (f.offset, ← Go.sizeOf f.type)).run Tryz.prog w = .ok places_vo.toArray w := fun _ => by kernel_rfl
theorem z4n : Tryz.prog.underlying 32 = some (.struct (Tryz.prog.fieldsOf 32)) := by kernel_rfl
@[go_sem ↓] theorem ysj (ρ : Operand → Value) (dst : Option Tmp) (p : Nat × Operand) (ps : List (Nat × Operand)) (ty : TypeId) (pos : String) (after : Array Edge) (guard : Option (Nat × Bool)) (w : World) :
  (execOp ρ { dst, op := .build 32 (p :: ps).toArray, type := ty, pos, after, guard }).run Tryz.prog w = zgr ((zhi places_vo (vo zvo) ((p.1, ρ p.2) :: ps.map fun p => (p.1, ρ p.2))).map .agg) w (za4 Tryz.prog ρ { dst, op := .build 32 (p :: ps).toArray, type := ty, pos, after, guard } w) :=
 zb2 z1u z4n zx4 ρ dst (p :: ps).toArray ty pos after guard w
@[go_sem ↓] theorem yrq (ρ : Operand → Value) (dst : Option Tmp) (ty : TypeId) (pos : String) (after : Array Edge) (guard : Option (Nat × Bool)) (w : World) :
  (execOp ρ { dst, op := .build 32 #[], type := ty, pos, after, guard }).run Tryz.prog w = .ok (.value (.agg (vo zvo))) w :=
 zb2 z1u z4n zx4 ρ dst #[] ty pos after guard w
attribute [go_sem] places_vo zas
theorem znc (x : Vo) : voL x = ([]) ++ ([sv x.l] ++ ([num x.out])) ∧ ([] : List Value).length = 0 := by
 constructor
 ·
  unfold voL; simp
 ·
  rfl
theorem yfy (x : Vo) : (vo x)[0]? = some (sv x.l) := zhy (znc x).1 (znc x).2
@[go_sem] theorem yt1 (x : Vo) (h : 0 < (vo x).size) : (vo x)[0]'h = sv x.l := by have := yfy x; rw [Array.getElem?_eq_getElem h] at this; exact Option.some.inj this
theorem ybh {w : World} {b off : Nat} {x : Vo} (h : w.rangeAt b off (voL x)) : w.cell? ⟨b, off + 0, none⟩ = some (sv x.l) := zbd h (znc x).1 (znc x).2
theorem yf4 {w : World} {g : Nat} {t : TypeId} {fr : Nat × Nat} {x : Vo} (h : w.heap[g]? = some (.cells (vo x) t fr)) : w.cell? ⟨g, 0, none⟩ = some (sv x.l) := by have := ybh (x := x) (zah h); rwa [Nat.zero_add] at this
theorem zo4 (x : Vo) (y : SlV) : zat (vo x) 0 #[sv y] = vo { x with l := y } := by
 rw [zau (c := vo x) (r := #[sv y]) (znc x).1 (znc x).2 rfl]
 simp [vo, voL]
theorem zk1 (x : Vo) : voL x = ([sv x.l]) ++ ([num x.out] ++ ([])) ∧ ([sv x.l] : List Value).length = 1 := by
 constructor
 ·
  unfold voL; simp
 ·
  simp
theorem z9a {w : World} {b off : Nat} {x : Vo} (h : w.rangeAt b off (voL x)) : w.cell? ⟨b, off + 1, none⟩ = some (num x.out) := zbd h (zk1 x).1 (zk1 x).2
theorem z5q {w : World} {g : Nat} {t : TypeId} {fr : Nat × Nat} {x : Vo} (h : w.heap[g]? = some (.cells (vo x) t fr)) : w.cell? ⟨g, 1, none⟩ = some (num x.out) := by have := z9a (x := x) (zah h); rwa [Nat.zero_add] at this
theorem zty (x : Vo) (y : UInt64) : zat (vo x) 1 #[num y] = vo { x with out := y } := by
 rw [zau (c := vo x) (r := #[num y]) (zk1 x).1 (zk1 x).2 rfl]
 simp [vo, voL]
@[go_sem] theorem yek (x : Vo) (p : Option Addr) (k c : Nat) : (vo x).setIfInBounds 0 (.slice p k c) = vo { x with l := ⟨p, k, c⟩ } := by
 rw [za1 (by rw [zas]; decide)]; exact zo4 x ⟨p, k, c⟩
@[go_sem] theorem z2g (x : Vo) (y : UInt64) : (vo x).setIfInBounds 1 (.int .u64 (y.toNat : Int)) = vo { x with out := y } := by
 rw [za1 (by rw [zas]; decide)]; exact zty x y
attribute [go_sem] zo4 zty
@[go_sem] theorem ypp (x : Vo) (p : Option Addr) (k c : Nat) : zat (vo x) 0 #[.slice p k c] = vo { x with l := ⟨p, k, c⟩ } := zo4 x ⟨p, k, c⟩
section
open Go.WideShapes Go.ChangeShapes
variable {H : Type} {enc : TypeId × Value → H} {w : World} {base : Nat} {sp : Nat → Bool} {held : Bool}
end
attribute [irreducible] vo
end
section
open Go.RowKit
structure Ck where
 epoch : UInt64
 root : Rt
theorem Ck.ext {x y : Ck} (h0 : x.epoch = y.epoch) (h1 : x.root = y.root) : x = y := by cases x; cases y; simp_all
instance : DecidableEq Ck := fun x y => decidable_of_iff (x.epoch = y.epoch ∧ x.root = y.root) ⟨fun h => Ck.ext h.1 h.2, fun h => by subst h; exact ⟨rfl, rfl⟩⟩
def ccL (x : Ck) : List Value := [num x.epoch] ++ ((rc x.root).toList)
def cc (x : Ck) : Array Value := (ccL x).toArray
theorem zcj (x : Ck) : (cc x).toList = ccL x := rfl
theorem yju (x : Ck) : (ccL x).length = 33 := by simp [ccL, zal]
theorem zaw (x : Ck) : (cc x).size = 33 := by rw [← Array.length_toList, zcj, yju]
theorem zle (x : Ck) : ∀ v ∈ ccL x, v.oneCell' = true := by
 intro v hv
 unfold ccL at hv
 simp only [List.mem_append, List.mem_singleton] at hv
 rcases hv with rfl | hv
 ·
  rfl
 ·
  exact zfz _ v hv
@[go_sem] theorem yuk (x : Ck) : okA 33 (.agg (cc x)) = true := by
 show ((cc x).size == 33 && (cc x).all (·.oneCell')) = true
 rw [show (cc x).all (·.oneCell') = true from ze6 (zle x), zaw]; rfl
def zcc : Ck := ⟨0, zr⟩
theorem zu8 (w : World) : (zeroValue 37).run Tryz.prog w = .ok (.agg (cc zcc)) w := by kernel_rfl
@[go_sem ↓] theorem ys7 (ρ : Operand → Value) (dst : Option Tmp) (x : Operand) (ty : TypeId) (pos : String) (after : Array Edge) (guard : Option (Nat × Bool)) (w : World) :
  (execOp ρ { dst, op := .load 37 x, type := ty, pos, after, guard }).run Tryz.prog w = zh7 (ldA w (ρ x) 33) w (za4 Tryz.prog ρ { dst, op := .load 37 x, type := ty, pos, after, guard } w) :=
 zbh Tryz.isAgg37 Tryz.sizeOf37 ρ dst x ty pos after guard w
@[go_sem ↓] theorem yse (ρ : Operand → Value) (dst : Option Tmp) (x y : Operand) (ty : TypeId) (pos : String) (after : Array Edge) (guard : Option (Nat × Bool)) (w : World) :
  (execOp ρ { dst, op := .store 37 x y, type := ty, pos, after, guard }).run Tryz.prog w = zh8 (wrA w (ρ x) 33 && okA 33 (ρ y)) (stA w (ρ x) (ρ y)) (za4 Tryz.prog ρ { dst, op := .store 37 x y, type := ty, pos, after, guard } w) :=
 za7 Tryz.sizeOf37 ρ dst x y ty pos after guard w
@[go_sem ↓] theorem ysn (ρ : Operand → Value) (dst : Option Tmp) (ty : TypeId) (pos : String) (after : Array Edge) (guard : Option (Nat × Bool)) (w : World) :
  (execOp ρ { dst, op := .alloc 37, type := ty, pos, after, guard }).run Tryz.prog w = .ok (.value (.pointer (some ⟨w.heap.size, 0, none⟩))) (w.alloc (.cells (cc zcc) 37)) := by
 unfold execOp
 simp only [Instr.alloc, Sem.run_bind, zu8, Result.andThen_ok]
 rfl
def places_cc : List (Nat × Nat) := [(0, 1), (1, 32)]
theorem z9u : ∀ w : World, ((Tryz.prog.fieldsOf 37).mapM (m := Sem) fun f => do pure (f.offset, ← Go.sizeOf f.type)).run Tryz.prog w = .ok places_cc.toArray w := fun _ => by kernel_rfl
theorem zoy : Tryz.prog.underlying 37 = some (.struct (Tryz.prog.fieldsOf 37)) := by kernel_rfl
theorem yd4 : (Tryz.prog.fieldsOf 37).toList.map (fun f => (f.name, f.type, f.offset)) = [("Epoch", 30, 0), ("Root", 23, 1)] := by kernel_rfl
@[go_sem ↓] theorem ysm (ρ : Operand → Value) (dst : Option Tmp) (p : Nat × Operand) (ps : List (Nat × Operand)) (ty : TypeId) (pos : String) (after : Array Edge) (guard : Option (Nat × Bool)) (w : World) :
  (execOp ρ { dst, op := .build 37 (p :: ps).toArray, type := ty, pos, after, guard }).run Tryz.prog w = zgr ((zhi places_cc (cc zcc) ((p.1, ρ p.2) :: ps.map fun p => (p.1, ρ p.2))).map .agg) w (za4 Tryz.prog ρ { dst, op := .build 37 (p :: ps).toArray, type := ty, pos, after, guard } w) :=
 zb2 zu8 zoy z9u ρ dst (p :: ps).toArray ty pos after guard w
attribute [go_sem] places_cc zaw
theorem zhf (x : Ck) : ccL x = ([]) ++ ([num x.epoch] ++ ((rc x.root).toList)) ∧ ([] : List Value).length = 0 := by
 constructor
 ·
  unfold ccL; simp
 ·
  rfl
theorem zgm (x : Ck) : (cc x)[0]? = some (num x.epoch) := zhy (zhf x).1 (zhf x).2
theorem zel {w : World} {b off : Nat} {x : Ck} (h : w.rangeAt b off (ccL x)) : w.cell? ⟨b, off + 0, none⟩ = some (num x.epoch) := zbd h (zhf x).1 (zhf x).2
theorem zn8 {w : World} {g : Nat} {t : TypeId} {fr : Nat × Nat} {x : Ck} (h : w.heap[g]? = some (.cells (cc x) t fr)) : w.cell? ⟨g, 0, none⟩ = some (num x.epoch) := by have := zel (x := x) (zah h); rwa [Nat.zero_add] at this
theorem zfr (x : Ck) : ccL x = ([num x.epoch]) ++ ((rc x.root).toList ++ ([])) ∧ ([num x.epoch] : List Value).length = 1 := by
 constructor
 ·
  unfold ccL; simp
 ·
  simp
theorem zhs (x : Ck) : (cc x).extract 1 (1 + 32) = rc x.root := zci (zfr x).1 (zfr x).2 (zal _)
theorem zfu {w : World} {b off : Nat} {x : Ck} (h : w.rangeAt b off (ccL x)) : ldA w (.pointer (some ⟨b, off + 1, none⟩)) 32 = some (rc x.root) := zcs h (zfr x).1 (zfr x).2 (zal _)
theorem zej {w : World} {g : Nat} {t : TypeId} {fr : Nat × Nat} {x : Ck} (h : w.heap[g]? = some (.cells (cc x) t fr)) : ldA w (.pointer (some ⟨g, 1, none⟩)) 32 = some (rc x.root) := by have := zfu (x := x) (zah h); rwa [Nat.zero_add] at this
theorem z1m (x : Ck) (y : Rt) : zat (cc x) 1 (rc y) = cc { x with root := y } := by
 rw [zau (c := cc x) (zfr x).1 (zfr x).2 (by simp [zal])]
 simp [cc, ccL]
attribute [go_sem] z1m
theorem zim (c : Array Value) (o : Nat) (r : Ck) (h : c.extract o (o + 33) = cc r) (w : World) : (part 37 c o).run Tryz.prog w = .ok (.agg (cc r)) w := by
 rw [z3u (P := Tryz.prog) Tryz.isAgg37 Tryz.sizeOf37, h]
theorem zze (d : Nat) (x y : Ck) (w : World) : (Op.equalIn (d + 3) 37 (.agg (cc x)) (.agg (cc y))).run Tryz.prog w = .ok (decide (x = y)) w := by
 rw [show d + 3 = (d + 2) + 1 from rfl, run_equalIn_struct w (d + 2) _ _ _ zoy (by kernel_rfl)]
 rw [zcf yd4 (by decide) (zok _ _ _ (zgm x) w) (zok _ _ _ (zgm y) w) (z8n (d + 1) _ _ w)
  (fun _ h1 => zcf h1 (by decide) (zxd _ _ _ (zhs x) w) (zxd _ _ _ (zhs y) w) (yh7 (d + 0) _ _ w)
  (fun _ hn => zp8 hn))]
 congr 1
 rw [Bool.eq_iff_iff]
 simp only [Bool.and_eq_true, decide_eq_true_iff, and_true]
 exact ⟨fun h => Ck.ext h.1 h.2, fun h => by subst h; exact ⟨rfl, rfl⟩⟩
@[go_sem ↓] theorem yuy (x y : Ck) (w : World) : (Op.equalIn 10000 37 (.agg (cc x)) (.agg (cc y))).run Tryz.prog w = .ok (decide (x = y)) w := zze 9997 x y w
theorem zjn : Tryz.prog.cellsOf 37 = 33 := by kernel_rfl
section
open Go.WideShapes Go.ChangeShapes
variable {H : Type} {enc : TypeId × Value → H} {w : World} {base : Nat} {sp : Nat → Bool} {held : Bool}
end
def Ecc : Lie Ck := ⟨37, 33, ccL, by decide, yju, zle⟩
attribute [irreducible] cc
end
section
open Go.RowKit
structure Aa where
 val : Int
 slot : UInt64
 head : Rt
 source : Ck
 target : Ck
theorem Aa.ext {x y : Aa} (h0 : x.val = y.val) (h1 : x.slot = y.slot) (h2 : x.head = y.head) (h3 : x.source = y.source) (h4 : x.target = y.target) : x = y := by cases x; cases y; simp_all
instance : DecidableEq Aa := fun x y => decidable_of_iff (x.val = y.val ∧ x.slot = y.slot ∧ x.head = y.head ∧ x.source = y.source ∧ x.target = y.target) ⟨fun h => Aa.ext h.1 h.2.1 h.2.2.1 h.2.2.2.1 h.2.2.2.2, fun h => by subst h; exact ⟨rfl, rfl, rfl, rfl, rfl⟩⟩
def aaL (x : Aa) : List Value := [.int .i64 x.val] ++ ([num x.slot] ++ ((rc x.head).toList ++ ((cc x.source).toList ++ ((cc x.target).toList))))
def aa (x : Aa) : Array Value := (aaL x).toArray
theorem zv5 (x : Aa) : (aa x).toList = aaL x := rfl
theorem yk5 (x : Aa) : (aaL x).length = 100 := by simp [aaL, zal, zaw]
theorem zf1 (x : Aa) : (aa x).size = 100 := by rw [← Array.length_toList, zv5, yk5]
theorem ykm (x : Aa) : ∀ v ∈ aaL x, v.oneCell' = true := by
 intro v hv
 unfold aaL at hv
 simp only [List.mem_append, List.mem_singleton] at hv
 rcases hv with rfl | rfl | hv | hv | hv
 ·
  rfl
 ·
  rfl
 ·
  exact zfz _ v hv
 ·
  exact zle _ v (by rw [zcj] at hv; exact hv)
 ·
  exact zle _ v (by rw [zcj] at hv; exact hv)
@[go_sem] theorem yus (x : Aa) : okA 100 (.agg (aa x)) = true := by
 show ((aa x).size == 100 && (aa x).all (·.oneCell')) = true
 rw [show (aa x).all (·.oneCell') = true from ze6 (ykm x), zf1]; rfl
def zaa : Aa := ⟨0, 0, zr, zcc, zcc⟩
theorem yde (w : World) : (zeroValue 62).run Tryz.prog w = .ok (.agg (aa zaa)) w := by kernel_rfl
@[go_sem ↓] theorem yth (ρ : Operand → Value) (dst : Option Tmp) (x : Operand) (ty : TypeId) (pos : String) (after : Array Edge) (guard : Option (Nat × Bool)) (w : World) :
  (execOp ρ { dst, op := .load 62 x, type := ty, pos, after, guard }).run Tryz.prog w = zh7 (ldA w (ρ x) 100) w (za4 Tryz.prog ρ { dst, op := .load 62 x, type := ty, pos, after, guard } w) :=
 zbh Tryz.isAgg62 Tryz.sizeOf62 ρ dst x ty pos after guard w
@[go_sem ↓] theorem yr6 (ρ : Operand → Value) (dst : Option Tmp) (x y : Operand) (ty : TypeId) (pos : String) (after : Array Edge) (guard : Option (Nat × Bool)) (w : World) :
  (execOp ρ { dst, op := .store 62 x y, type := ty, pos, after, guard }).run Tryz.prog w = zh8 (wrA w (ρ x) 100 && okA 100 (ρ y)) (stA w (ρ x) (ρ y)) (za4 Tryz.prog ρ { dst, op := .store 62 x y, type := ty, pos, after, guard } w) :=
 za7 Tryz.sizeOf62 ρ dst x y ty pos after guard w
@[go_sem ↓] theorem ysr (ρ : Operand → Value) (dst : Option Tmp) (ty : TypeId) (pos : String) (after : Array Edge) (guard : Option (Nat × Bool)) (w : World) :
  (execOp ρ { dst, op := .alloc 62, type := ty, pos, after, guard }).run Tryz.prog w = .ok (.value (.pointer (some ⟨w.heap.size, 0, none⟩))) (w.alloc (.cells (aa zaa) 62)) := by
 unfold execOp
 simp only [Instr.alloc, Sem.run_bind, yde, Result.andThen_ok]
 rfl
theorem yfq : Tryz.prog.underlying 62 = some (.struct (Tryz.prog.fieldsOf 62)) := by kernel_rfl
theorem ym5 : (Tryz.prog.fieldsOf 62).toList.map (fun f => (f.name, f.type, f.offset)) = [("Val", 3, 0), ("Slot", 30, 1), ("Head", 23, 2), ("Source", 37, 34), ("Target", 37, 67)] := by kernel_rfl
attribute [go_sem] zf1
theorem zk6 (x : Aa) : aaL x = ([]) ++ ([.int .i64 x.val] ++ ([num x.slot] ++ ((rc x.head).toList ++ ((cc x.source).toList ++ ((cc x.target).toList))))) ∧ ([] : List Value).length = 0 := by
 constructor
 ·
  unfold aaL; simp
 ·
  rfl
theorem zth (x : Aa) : (aa x)[0]? = some (.int .i64 x.val) := zhy (zk6 x).1 (zk6 x).2
theorem yeg {w : World} {b off : Nat} {x : Aa} (h : w.rangeAt b off (aaL x)) : w.cell? ⟨b, off + 0, none⟩ = some (.int .i64 x.val) := zbd h (zk6 x).1 (zk6 x).2
theorem z6s {w : World} {g : Nat} {t : TypeId} {fr : Nat × Nat} {x : Aa} (h : w.heap[g]? = some (.cells (aa x) t fr)) : w.cell? ⟨g, 0, none⟩ = some (.int .i64 x.val) := by have := yeg (x := x) (zah h); rwa [Nat.zero_add] at this
theorem zi5 (x : Aa) : aaL x = ([.int .i64 x.val]) ++ ([num x.slot] ++ ((rc x.head).toList ++ ((cc x.source).toList ++ ((cc x.target).toList)))) ∧ ([.int .i64 x.val] : List Value).length = 1 := by
 constructor
 ·
  unfold aaL; simp
 ·
  simp
theorem zri (x : Aa) : (aa x)[1]? = some (num x.slot) := zhy (zi5 x).1 (zi5 x).2
theorem z63 {w : World} {b off : Nat} {x : Aa} (h : w.rangeAt b off (aaL x)) : w.cell? ⟨b, off + 1, none⟩ = some (num x.slot) := zbd h (zi5 x).1 (zi5 x).2
theorem zka {w : World} {g : Nat} {t : TypeId} {fr : Nat × Nat} {x : Aa} (h : w.heap[g]? = some (.cells (aa x) t fr)) : w.cell? ⟨g, 1, none⟩ = some (num x.slot) := by have := z63 (x := x) (zah h); rwa [Nat.zero_add] at this
theorem zi6 (x : Aa) : aaL x = ([.int .i64 x.val] ++ [num x.slot]) ++ ((rc x.head).toList ++ ((cc x.source).toList ++ ((cc x.target).toList))) ∧ ([.int .i64 x.val] ++ [num x.slot] : List Value).length = 2 := by
 constructor
 ·
  unfold aaL; simp
 ·
  simp
theorem zq7 (x : Aa) : (aa x).extract 2 (2 + 32) = rc x.head := zci (zi6 x).1 (zi6 x).2 (zal _)
theorem z73 {w : World} {b off : Nat} {x : Aa} (h : w.rangeAt b off (aaL x)) : ldA w (.pointer (some ⟨b, off + 2, none⟩)) 32 = some (rc x.head) := zcs h (zi6 x).1 (zi6 x).2 (zal _)
theorem z0x {w : World} {g : Nat} {t : TypeId} {fr : Nat × Nat} {x : Aa} (h : w.heap[g]? = some (.cells (aa x) t fr)) : ldA w (.pointer (some ⟨g, 2, none⟩)) 32 = some (rc x.head) := by have := z73 (x := x) (zah h); rwa [Nat.zero_add] at this
theorem zdv (x : Aa) : aaL x = ([.int .i64 x.val] ++ [num x.slot] ++ (rc x.head).toList) ++ ((cc x.source).toList ++ ((cc x.target).toList)) ∧ ([.int .i64 x.val] ++ [num x.slot] ++ (rc x.head).toList : List Value).length = 34 := by
 constructor
 ·
  unfold aaL; simp
 ·
  simp [zal]
theorem zmd (x : Aa) : (aa x).extract 34 (34 + 33) = cc x.source := zci (zdv x).1 (zdv x).2 (zaw _)
theorem zyx {w : World} {b off : Nat} {x : Aa} (h : w.rangeAt b off (aaL x)) : ldA w (.pointer (some ⟨b, off + 34, none⟩)) 33 = some (cc x.source) := zcs h (zdv x).1 (zdv x).2 (zaw _)
theorem zwn {w : World} {g : Nat} {t : TypeId} {fr : Nat × Nat} {x : Aa} (h : w.heap[g]? = some (.cells (aa x) t fr)) : ldA w (.pointer (some ⟨g, 34, none⟩)) 33 = some (cc x.source) := by have := zyx (x := x) (zah h); rwa [Nat.zero_add] at this
theorem zdw (x : Aa) : aaL x = ([.int .i64 x.val] ++ [num x.slot] ++ (rc x.head).toList ++ (cc x.source).toList) ++ ((cc x.target).toList ++ ([])) ∧ ([.int .i64 x.val] ++ [num x.slot] ++ (rc x.head).toList ++ (cc x.source).toList : List Value).length = 67 := by
 constructor
 ·
  unfold aaL; simp
 ·
  simp [zal, zaw]
theorem zkp (x : Aa) : (aa x).extract 67 (67 + 33) = cc x.target := zci (zdw x).1 (zdw x).2 (zaw _)
theorem zyt {w : World} {b off : Nat} {x : Aa} (h : w.rangeAt b off (aaL x)) : ldA w (.pointer (some ⟨b, off + 67, none⟩)) 33 = some (cc x.target) := zcs h (zdw x).1 (zdw x).2 (zaw _)
theorem zwd {w : World} {g : Nat} {t : TypeId} {fr : Nat × Nat} {x : Aa} (h : w.heap[g]? = some (.cells (aa x) t fr)) : ldA w (.pointer (some ⟨g, 67, none⟩)) 33 = some (cc x.target) := by have := zyt (x := x) (zah h); rwa [Nat.zero_add] at this
theorem zoe {w : World} {b off : Nat} {x : Aa} (h : w.rangeAt b off (aaL x)) : w.rangeAt b (off + 34) (ccL x.source) := by
 rw [← zcj]; exact zc3 h (zdv x).1 (zdv x).2
theorem zlr {w : World} {b off : Nat} {x : Aa} (h : w.rangeAt b off (aaL x)) : w.cell? ⟨b, off + 34, none⟩ = some (num x.source.epoch) := zel (zoe h)
theorem zkk {w : World} {g : Nat} {t : TypeId} {fr : Nat × Nat} {x : Aa} (h : w.heap[g]? = some (.cells (aa x) t fr)) : w.cell? ⟨g, 34, none⟩ = some (num x.source.epoch) := by have := zlr (x := x) (zah h); rwa [Nat.zero_add] at this
theorem zmm {w : World} {b off : Nat} {x : Aa} (h : w.rangeAt b off (aaL x)) : ldA w (.pointer (some ⟨b, off + 35, none⟩)) 32 = some (rc x.source.root) := zfu (zoe h)
theorem zmc {w : World} {g : Nat} {t : TypeId} {fr : Nat × Nat} {x : Aa} (h : w.heap[g]? = some (.cells (aa x) t fr)) : ldA w (.pointer (some ⟨g, 35, none⟩)) 32 = some (rc x.source.root) := by have := zmm (x := x) (zah h); rwa [Nat.zero_add] at this
theorem znz {w : World} {b off : Nat} {x : Aa} (h : w.rangeAt b off (aaL x)) : w.rangeAt b (off + 67) (ccL x.target) := by
 rw [← zcj]; exact zc3 h (zdw x).1 (zdw x).2
theorem zk3 {w : World} {b off : Nat} {x : Aa} (h : w.rangeAt b off (aaL x)) : w.cell? ⟨b, off + 67, none⟩ = some (num x.target.epoch) := zel (znz h)
theorem zj7 {w : World} {g : Nat} {t : TypeId} {fr : Nat × Nat} {x : Aa} (h : w.heap[g]? = some (.cells (aa x) t fr)) : w.cell? ⟨g, 67, none⟩ = some (num x.target.epoch) := by have := zk3 (x := x) (zah h); rwa [Nat.zero_add] at this
theorem znh {w : World} {b off : Nat} {x : Aa} (h : w.rangeAt b off (aaL x)) : ldA w (.pointer (some ⟨b, off + 68, none⟩)) 32 = some (rc x.target.root) := zfu (znz h)
theorem zk9 {w : World} {g : Nat} {t : TypeId} {fr : Nat × Nat} {x : Aa} (h : w.heap[g]? = some (.cells (aa x) t fr)) : ldA w (.pointer (some ⟨g, 68, none⟩)) 32 = some (rc x.target.root) := by have := znh (x := x) (zah h); rwa [Nat.zero_add] at this
theorem yqp (d : Nat) (x y : Aa) (w : World) : (Op.equalIn (d + 4) 62 (.agg (aa x)) (.agg (aa y))).run Tryz.prog w = .ok (decide (x = y)) w := by
 rw [show d + 4 = (d + 3) + 1 from rfl, run_equalIn_struct w (d + 3) _ _ _ yfq (by kernel_rfl)]
 rw [zcf ym5 (by decide) (yfs _ _ _ (zth x) w) (yfs _ _ _ (zth y) w) (yrz (d + 2) _ _ w)
  (fun _ h1 => zcf h1 (by decide) (zok _ _ _ (zri x) w) (zok _ _ _ (zri y) w) (z8n (d + 2) _ _ w)
  (fun _ h2 => zcf h2 (by decide) (zxd _ _ _ (zq7 x) w) (zxd _ _ _ (zq7 y) w) (yh7 (d + 1) _ _ w)
  (fun _ h3 => zcf h3 (by decide) (zim _ _ _ (zmd x) w) (zim _ _ _ (zmd y) w) (zze (d + 0) _ _ w)
  (fun _ h4 => zcf h4 (by decide) (zim _ _ _ (zkp x) w) (zim _ _ _ (zkp y) w) (zze (d + 0) _ _ w)
  (fun _ hn => zp8 hn)))))]
 congr 1
 rw [Bool.eq_iff_iff]
 simp only [Bool.and_eq_true, decide_eq_true_iff, and_true]
 exact ⟨fun h => Aa.ext h.1 h.2.1 h.2.2.1 h.2.2.2.1 h.2.2.2.2, fun h => by subst h; exact ⟨rfl, rfl, rfl, rfl, rfl⟩⟩
@[go_sem ↓] theorem yut (x y : Aa) (w : World) : (Op.equalIn 10000 62 (.agg (aa x)) (.agg (aa y))).run Tryz.prog w = .ok (decide (x = y)) w := yqp 9996 x y w
section
open Go.WideShapes Go.ChangeShapes
variable {H : Type} {enc : TypeId × Value → H} {w : World} {base : Nat} {sp : Nat → Bool} {held : Bool}
end
def Eaa : Lie Aa := ⟨62, 100, aaL, by decide, yk5, ykm⟩
attribute [irreducible] aa
end
section
open Go.RowKit
theorem yd2 : (Tryz.prog.info? 62).map (fun i => (i.zero, i.size, i.bytes)) = some (some (.agg (aa zaa)), 100, 128) := by kernel_rfl
theorem Kaa : Known Tryz.prog Eaa 33 := ⟨Tryz.underlying33, .agg (aa zaa), 128, yd2, by show ((aa zaa)).size = _; exact zf1 _, by decide⟩
@[go_sem ↓] theorem yiu (ρ : Operand → Value) (dst : Option Tmp) (x : Operand) (ty : TypeId) (pos : String) (after : Array Edge) (guard : Option (Nat × Bool)) (w : World) (hx : okA 100 (ρ x) = true) :
  (execOp ρ { dst, op := .buildSlice 33 1 #[(0, x)], type := ty, pos, after, guard }).run Tryz.prog w = .ok (.value (.slice (some ⟨w.heap.size, 0, none⟩) 1 1)) (w.alloc (.cells (zgk (ρ x)) 62)) := by
 obtain ⟨c, hc, hn⟩ : ∃ c, ρ x = .agg c ∧ c.size = 100 := by
  unfold okA at hx
  split at hx
  ·
   rename_i c hc
   rw [Bool.and_eq_true, beq_iff_eq] at hx
   exact ⟨c, hc, hx.1⟩
  ·
   cases hx
 have hp : (1 * 100 > 2 ^ 24) = False := by simp
 have h0 : (1 * 100 = 0) = False := by simp
 unfold execOp
 simp only [Instr.buildSlice, Sem.run_bind, run_underlying Tryz.underlying33, Result.andThen_ok, Tryz.sizeOf62, hp, h0, if_false, yde, Value.cells]
 simp only [List.map_toArray, List.map_cons, List.map_nil, hc, Instr.fill, Value.cells, hn, Nat.zero_mul]
 simp [zgk]
 rw [zie _ c (by simp [hn])]
 rfl
section
open Go.WideShapes Go.ChangeShapes
variable {H : Type} {enc : TypeId × Value → H} {w : World} {base : Nat} {sp : Nat → Bool} {held : Bool}
end
end
section
open Go.RowKit
theorem yc7 : (Tryz.prog.info? 37).map (fun i => (i.zero, i.size, i.bytes)) = some (some (.agg (cc zcc)), 33, 40) := by kernel_rfl
theorem Kcc : Known Tryz.prog Ecc 35 := ⟨Tryz.underlying35, .agg (cc zcc), 40, yc7, by show ((cc zcc)).size = _; exact zaw _, by decide⟩
@[go_sem ↓] theorem yga (ρ : Operand → Value) (dst : Option Tmp) (x lo : Operand) (ty : TypeId) (pos : String) (after : Array Edge) (guard : Option (Nat × Bool)) (w : World) :
  (execOp ρ { dst, op := .slice 35 x (some lo) none none, type := ty, pos, after, guard }).run Tryz.prog w = zgr (z0r 33 (ρ x) (ρ lo)) w (za4 Tryz.prog ρ { dst, op := .slice 35 x (some lo) none none, type := ty, pos, after, guard } w) :=
 zob Tryz.underlying35 Tryz.sizeOf37 ρ dst x lo ty pos after guard w
section
open Go.WideShapes Go.ChangeShapes
variable {H : Type} {enc : TypeId × Value → H} {w : World} {base : Nat} {sp : Nat → Bool} {held : Bool}
end
end
theorem zwi {a b : UInt64} (h : ∀ i, a.toNat.testBit i = b.toNat.testBit i) : a = b := UInt64.toNat_inj.1 (Nat.eq_of_testBit_eq h)
theorem ynm (a b : UInt64) (i : Nat) : (a &&& b).toNat.testBit i = (a.toNat.testBit i && b.toNat.testBit i) := by rw [UInt64.toNat_and, Nat.testBit_and]
theorem z31 (a b : UInt64) (i : Nat) : (a ||| b).toNat.testBit i = (a.toNat.testBit i || b.toNat.testBit i) := by rw [UInt64.toNat_or, Nat.testBit_or]
structure Lk where
 s : Ck
 t : Ck
 mask : UInt64
theorem Lk.ext {x y : Lk} (h0 : x.s = y.s) (h1 : x.t = y.t) (h2 : x.mask = y.mask) : x = y := by cases x; cases y; simp_all
instance : DecidableEq Lk := fun x y => decidable_of_iff (x.s = y.s ∧ x.t = y.t ∧ x.mask = y.mask) ⟨fun h => Lk.ext h.1 h.2.1 h.2.2, fun h => by subst h; exact ⟨rfl, rfl, rfl⟩⟩
def oneB (a b : Lk) : Bool := decide (a.s = b.s ∧ a.t = b.t)
def lkAt (ls : List Lk) (i : Nat) : Lk := ls.getD i ⟨zcc, zcc, 0⟩
section
variable {ls : List Lk}
end
end Go.Proofs.YtmihlihlpdkdcaaGreat
