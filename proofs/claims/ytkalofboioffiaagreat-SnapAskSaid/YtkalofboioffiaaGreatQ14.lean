import Derived.Test.YtkalofboioffiaaGreatQ13
namespace Go.Proofs.YtkalofboioffiaaGreat
open Go.RowKit
set_option maxRecDepth 200000
set_option maxHeartbeats 64000000
section
open Go.RowKit
structure En where
 t : Tr
 bal : SlV
 v : Vo
 w : SlV
 late : SlV
 k : SlV
 j : SlV
 fin : Ck
 now : UInt64
def enL (x : En) : List Value := (tr x.t).toList ++ ([sv x.bal] ++ ((vo x.v).toList ++ ([sv x.w] ++ ([sv x.late] ++ ([sv x.k] ++ ([sv x.j] ++ ((cc x.fin).toList ++ ([num x.now]))))))))
def en (x : En) : Array Value := (enL x).toArray
theorem z0k (x : En) : (en x).toList = enL x := rfl
theorem ypp (x : En) : (enL x).length = 42 := by simp [enL, za9, zbv, za5]
theorem zbc (x : En) : (en x).size = 42 := by rw [← Array.length_toList, z0k, ypp]
theorem ypq (x : En) : ∀ v ∈ enL x, v.oneCell' = true := by
 intro v hv
 unfold enL at hv
 simp only [List.mem_append, List.mem_singleton] at hv
 rcases hv with hv | rfl | hv | rfl | rfl | rfl | rfl | hv | rfl
 ·
  exact z4r _ v (by rw [zgq] at hv; exact hv)
 ·
  rfl
 ·
  exact ykg _ v (by rw [zrj] at hv; exact hv)
 ·
  rfl
 ·
  rfl
 ·
  rfl
 ·
  rfl
 ·
  exact zgs _ v (by rw [zby] at hv; exact hv)
 ·
  rfl
@[go_sem] theorem ytw (x : En) : okA 42 (.agg (en x)) = true := by
 show ((en x).size == 42 && (en x).all (·.oneCell')) = true
 rw [show (en x).all (·.oneCell') = true from zea (ypq x), zbc]; rfl
def zen : En := ⟨ztr, ⟨none, 0, 0⟩, zvo, ⟨none, 0, 0⟩, ⟨none, 0, 0⟩, ⟨none, 0, 0⟩, ⟨none, 0, 0⟩, zcc, 0⟩
theorem z2j (w : World) : (zeroValue 38).run Tryz.prog w = .ok (.agg (en zen)) w := by kernel_rfl
@[go_sem ↓] theorem ys6 (ρ : Operand → Value) (dst : Option Tmp) (x : Operand) (ty : TypeId) (pos : String) (after : Array Edge) (guard : Option (Nat × Bool)) (w : World) :
  (execOp ρ { dst, op := .load 38 x, type := ty, pos, after, guard }).run Tryz.prog w = zkh (ldA w (ρ x) 42) w (zbn Tryz.prog ρ { dst, op := .load 38 x, type := ty, pos, after, guard } w) :=
 zb2 Tryz.isAgg38 Tryz.sizeOf38 ρ dst x ty pos after guard w
@[go_sem ↓] theorem yr9 (ρ : Operand → Value) (dst : Option Tmp) (x y : Operand) (ty : TypeId) (pos : String) (after : Array Edge) (guard : Option (Nat × Bool)) (w : World) :
  (execOp ρ { dst, op := .store 38 x y, type := ty, pos, after, guard }).run Tryz.prog w = zjo (wrA w (ρ x) 42 && okA 42 (ρ y)) (stA w (ρ x) (ρ y)) (zbn Tryz.prog ρ { dst, op := .store 38 x y, type := ty, pos, after, guard } w) :=
 zbm Tryz.sizeOf38 ρ dst x y ty pos after guard w
@[go_sem ↓] theorem yrk (ρ : Operand → Value) (dst : Option Tmp) (ty : TypeId) (pos : String) (after : Array Edge) (guard : Option (Nat × Bool)) (w : World) :
  (execOp ρ { dst, op := .alloc 38, type := ty, pos, after, guard }).run Tryz.prog w = .ok (.value (.pointer (some ⟨w.heap.size, 0, none⟩))) (w.alloc (.cells (en zen) 38)) := by
 unfold execOp
 simp only [Instr.alloc, Sem.run_bind, z2j, Result.andThen_ok]
 rfl
def places_en : List (Nat × Nat) := [(0, 1), (1, 1), (2, 2), (4, 1), (5, 1), (6, 1), (7, 1), (8, 33), (41, 1)]
theorem zxh : ∀ w : World, ((Tryz.prog.fieldsOf 38).mapM (m := Sem) fun f => do pure (f.offset, ← Go.sizeOf f.type)).run Tryz.prog w = .ok places_en.toArray w := fun _ => by kernel_rfl
theorem zdq : Tryz.prog.underlying 38 = some (.struct (Tryz.prog.fieldsOf 38)) := by kernel_rfl
theorem zhe : (Tryz.prog.fieldsOf 38).toList.map (fun f => (f.name, f.type, f.offset)) = [("T", 24, 0), ("Bal", 25, 1), ("V", 29, 2), ("W", 25, 4), ("Late", 30, 5), ("K", 31, 6), ("J", 32, 7), ("Fin", 36, 8), ("Now", 27, 41)] := by kernel_rfl
@[go_sem ↓] theorem yrx (ρ : Operand → Value) (dst : Option Tmp) (p : Nat × Operand) (ps : List (Nat × Operand)) (ty : TypeId) (pos : String) (after : Array Edge) (guard : Option (Nat × Bool)) (w : World) :
  (execOp ρ { dst, op := .build 38 (p :: ps).toArray, type := ty, pos, after, guard }).run Tryz.prog w = zg7 ((zh2 places_en (en zen) ((p.1, ρ p.2) :: ps.map fun p => (p.1, ρ p.2))).map .agg) w (zbn Tryz.prog ρ { dst, op := .build 38 (p :: ps).toArray, type := ty, pos, after, guard } w) :=
 zcg z2j zdq zxh ρ dst (p :: ps).toArray ty pos after guard w
@[go_sem ↓] theorem yo9 (ρ : Operand → Value) (dst : Option Tmp) (ty : TypeId) (pos : String) (after : Array Edge) (guard : Option (Nat × Bool)) (w : World) :
  (execOp ρ { dst, op := .build 38 #[], type := ty, pos, after, guard }).run Tryz.prog w = .ok (.value (.agg (en zen))) w :=
 zcg z2j zdq zxh ρ dst #[] ty pos after guard w
attribute [go_sem] places_en zbc
theorem zib (x : En) : enL x = ([]) ++ ((tr x.t).toList ++ ([sv x.bal] ++ ((vo x.v).toList ++ ([sv x.w] ++ ([sv x.late] ++ ([sv x.k] ++ ([sv x.j] ++ ((cc x.fin).toList ++ ([num x.now]))))))))) ∧ ([] : List Value).length = 0 := by
 constructor
 ·
  unfold enL; simp
 ·
  rfl
theorem ylj {w : World} {b off : Nat} {x : En} (h : w.rangeAt b off (enL x)) : ldA w (.pointer (some ⟨b, off + 0, none⟩)) 1 = some (tr x.t) := zca h (zib x).1 (zib x).2 (za9 _)
theorem yf3 {w : World} {g : Nat} {t : TypeId} {fr : Nat × Nat} {x : En} (h : w.heap[g]? = some (.cells (en x) t fr)) : ldA w (.pointer (some ⟨g, 0, none⟩)) 1 = some (tr x.t) := by have := ylj (x := x) (zai h); rwa [Nat.zero_add] at this
theorem zuk (x : En) (y : Tr) : za2 (en x) 0 (tr y) = en { x with t := y } := by
 rw [za3 (c := en x) (zib x).1 (zib x).2 (by simp [za9])]
 simp [en, enL]
theorem zkz (x : En) : enL x = ((tr x.t).toList) ++ ([sv x.bal] ++ ((vo x.v).toList ++ ([sv x.w] ++ ([sv x.late] ++ ([sv x.k] ++ ([sv x.j] ++ ((cc x.fin).toList ++ ([num x.now])))))))) ∧ ((tr x.t).toList : List Value).length = 1 := by
 constructor
 ·
  unfold enL; simp
 ·
  simp [za9]
theorem z9y {w : World} {b off : Nat} {x : En} (h : w.rangeAt b off (enL x)) : w.cell? ⟨b, off + 1, none⟩ = some (sv x.bal) := zbj h (zkz x).1 (zkz x).2
theorem zmp {w : World} {g : Nat} {t : TypeId} {fr : Nat × Nat} {x : En} (h : w.heap[g]? = some (.cells (en x) t fr)) : w.cell? ⟨g, 1, none⟩ = some (sv x.bal) := by have := z9y (x := x) (zai h); rwa [Nat.zero_add] at this
theorem zmo (x : En) (y : SlV) : za2 (en x) 1 #[sv y] = en { x with bal := y } := by
 rw [za3 (c := en x) (r := #[sv y]) (zkz x).1 (zkz x).2 rfl]
 simp [en, enL]
theorem zic (x : En) : enL x = ((tr x.t).toList ++ [sv x.bal]) ++ ((vo x.v).toList ++ ([sv x.w] ++ ([sv x.late] ++ ([sv x.k] ++ ([sv x.j] ++ ((cc x.fin).toList ++ ([num x.now]))))))) ∧ ((tr x.t).toList ++ [sv x.bal] : List Value).length = 2 := by
 constructor
 ·
  unfold enL; simp
 ·
  simp [za9]
theorem ylk {w : World} {b off : Nat} {x : En} (h : w.rangeAt b off (enL x)) : ldA w (.pointer (some ⟨b, off + 2, none⟩)) 2 = some (vo x.v) := zca h (zic x).1 (zic x).2 (zbv _)
theorem yf4 {w : World} {g : Nat} {t : TypeId} {fr : Nat × Nat} {x : En} (h : w.heap[g]? = some (.cells (en x) t fr)) : ldA w (.pointer (some ⟨g, 2, none⟩)) 2 = some (vo x.v) := by have := ylk (x := x) (zai h); rwa [Nat.zero_add] at this
theorem zul (x : En) (y : Vo) : za2 (en x) 2 (vo y) = en { x with v := y } := by
 rw [za3 (c := en x) (zic x).1 (zic x).2 (by simp [zbv])]
 simp [en, enL]
theorem zui (x : En) : enL x = ((tr x.t).toList ++ [sv x.bal] ++ (vo x.v).toList) ++ ([sv x.w] ++ ([sv x.late] ++ ([sv x.k] ++ ([sv x.j] ++ ((cc x.fin).toList ++ ([num x.now])))))) ∧ ((tr x.t).toList ++ [sv x.bal] ++ (vo x.v).toList : List Value).length = 4 := by
 constructor
 ·
  unfold enL; simp
 ·
  simp [za9, zbv]
theorem yll {w : World} {b off : Nat} {x : En} (h : w.rangeAt b off (enL x)) : w.cell? ⟨b, off + 4, none⟩ = some (sv x.w) := zbj h (zui x).1 (zui x).2
theorem zoj {w : World} {g : Nat} {t : TypeId} {fr : Nat × Nat} {x : En} (h : w.heap[g]? = some (.cells (en x) t fr)) : w.cell? ⟨g, 4, none⟩ = some (sv x.w) := by have := yll (x := x) (zai h); rwa [Nat.zero_add] at this
theorem zum (x : En) (y : SlV) : za2 (en x) 4 #[sv y] = en { x with w := y } := by
 rw [za3 (c := en x) (r := #[sv y]) (zui x).1 (zui x).2 rfl]
 simp [en, enL]
theorem zi8 (x : En) : enL x = ((tr x.t).toList ++ [sv x.bal] ++ (vo x.v).toList ++ [sv x.w]) ++ ([sv x.late] ++ ([sv x.k] ++ ([sv x.j] ++ ((cc x.fin).toList ++ ([num x.now]))))) ∧ ((tr x.t).toList ++ [sv x.bal] ++ (vo x.v).toList ++ [sv x.w] : List Value).length = 5 := by
 constructor
 ·
  unfold enL; simp
 ·
  simp [za9, zbv]
theorem z5o {w : World} {b off : Nat} {x : En} (h : w.rangeAt b off (enL x)) : w.cell? ⟨b, off + 5, none⟩ = some (sv x.late) := zbj h (zi8 x).1 (zi8 x).2
theorem zka {w : World} {g : Nat} {t : TypeId} {fr : Nat × Nat} {x : En} (h : w.heap[g]? = some (.cells (en x) t fr)) : w.cell? ⟨g, 5, none⟩ = some (sv x.late) := by have := z5o (x := x) (zai h); rwa [Nat.zero_add] at this
theorem zpi (x : En) (y : SlV) : za2 (en x) 5 #[sv y] = en { x with late := y } := by
 rw [za3 (c := en x) (r := #[sv y]) (zi8 x).1 (zi8 x).2 rfl]
 simp [en, enL]
theorem zuh (x : En) : enL x = ((tr x.t).toList ++ [sv x.bal] ++ (vo x.v).toList ++ [sv x.w] ++ [sv x.late]) ++ ([sv x.k] ++ ([sv x.j] ++ ((cc x.fin).toList ++ ([num x.now])))) ∧ ((tr x.t).toList ++ [sv x.bal] ++ (vo x.v).toList ++ [sv x.w] ++ [sv x.late] : List Value).length = 6 := by
 constructor
 ·
  unfold enL; simp
 ·
  simp [za9, zbv]
theorem yli {w : World} {b off : Nat} {x : En} (h : w.rangeAt b off (enL x)) : w.cell? ⟨b, off + 6, none⟩ = some (sv x.k) := zbj h (zuh x).1 (zuh x).2
theorem zk1 {w : World} {g : Nat} {t : TypeId} {fr : Nat × Nat} {x : En} (h : w.heap[g]? = some (.cells (en x) t fr)) : w.cell? ⟨g, 6, none⟩ = some (sv x.k) := by have := yli (x := x) (zai h); rwa [Nat.zero_add] at this
theorem z3a (x : En) (y : SlV) : za2 (en x) 6 #[sv y] = en { x with k := y } := by
 rw [za3 (c := en x) (r := #[sv y]) (zuh x).1 (zuh x).2 rfl]
 simp [en, enL]
theorem zug (x : En) : enL x = ((tr x.t).toList ++ [sv x.bal] ++ (vo x.v).toList ++ [sv x.w] ++ [sv x.late] ++ [sv x.k]) ++ ([sv x.j] ++ ((cc x.fin).toList ++ ([num x.now]))) ∧ ((tr x.t).toList ++ [sv x.bal] ++ (vo x.v).toList ++ [sv x.w] ++ [sv x.late] ++ [sv x.k] : List Value).length = 7 := by
 constructor
 ·
  unfold enL; simp
 ·
  simp [za9, zbv]
theorem ylh {w : World} {b off : Nat} {x : En} (h : w.rangeAt b off (enL x)) : w.cell? ⟨b, off + 7, none⟩ = some (sv x.j) := zbj h (zug x).1 (zug x).2
theorem zk0 {w : World} {g : Nat} {t : TypeId} {fr : Nat × Nat} {x : En} (h : w.heap[g]? = some (.cells (en x) t fr)) : w.cell? ⟨g, 7, none⟩ = some (sv x.j) := by have := ylh (x := x) (zai h); rwa [Nat.zero_add] at this
theorem zuj (x : En) (y : SlV) : za2 (en x) 7 #[sv y] = en { x with j := y } := by
 rw [za3 (c := en x) (r := #[sv y]) (zug x).1 (zug x).2 rfl]
 simp [en, enL]
theorem zgv (x : En) : enL x = ((tr x.t).toList ++ [sv x.bal] ++ (vo x.v).toList ++ [sv x.w] ++ [sv x.late] ++ [sv x.k] ++ [sv x.j]) ++ ((cc x.fin).toList ++ ([num x.now])) ∧ ((tr x.t).toList ++ [sv x.bal] ++ (vo x.v).toList ++ [sv x.w] ++ [sv x.late] ++ [sv x.k] ++ [sv x.j] : List Value).length = 8 := by
 constructor
 ·
  unfold enL; simp
 ·
  simp [za9, zbv]
theorem z9z {w : World} {b off : Nat} {x : En} (h : w.rangeAt b off (enL x)) : ldA w (.pointer (some ⟨b, off + 8, none⟩)) 33 = some (cc x.fin) := zca h (zgv x).1 (zgv x).2 (za5 _)
theorem z5m {w : World} {g : Nat} {t : TypeId} {fr : Nat × Nat} {x : En} (h : w.heap[g]? = some (.cells (en x) t fr)) : ldA w (.pointer (some ⟨g, 8, none⟩)) 33 = some (cc x.fin) := by have := z9z (x := x) (zai h); rwa [Nat.zero_add] at this
theorem z5l (x : En) (y : Ck) : za2 (en x) 8 (cc y) = en { x with fin := y } := by
 rw [za3 (c := en x) (zgv x).1 (zgv x).2 (by simp [za5])]
 simp [en, enL]
theorem zw9 (x : En) : enL x = ((tr x.t).toList ++ [sv x.bal] ++ (vo x.v).toList ++ [sv x.w] ++ [sv x.late] ++ [sv x.k] ++ [sv x.j] ++ (cc x.fin).toList) ++ ([num x.now] ++ ([])) ∧ ((tr x.t).toList ++ [sv x.bal] ++ (vo x.v).toList ++ [sv x.w] ++ [sv x.late] ++ [sv x.k] ++ [sv x.j] ++ (cc x.fin).toList : List Value).length = 41 := by
 constructor
 ·
  unfold enL; simp
 ·
  simp [za9, zbv, za5]
theorem z90 {w : World} {b off : Nat} {x : En} (h : w.rangeAt b off (enL x)) : w.cell? ⟨b, off + 41, none⟩ = some (num x.now) := zbj h (zw9 x).1 (zw9 x).2
theorem z5n {w : World} {g : Nat} {t : TypeId} {fr : Nat × Nat} {x : En} (h : w.heap[g]? = some (.cells (en x) t fr)) : w.cell? ⟨g, 41, none⟩ = some (num x.now) := by have := z90 (x := x) (zai h); rwa [Nat.zero_add] at this
theorem ylm {w : World} {b off : Nat} {x : En} (h : w.rangeAt b off (enL x)) : w.rangeAt b (off + 0) (trL x.t) := by
 rw [← zgq]; exact zcz h (zib x).1 (zib x).2
theorem yle (x : En) (o : Nat) (r : Array Value) (h : o + r.size ≤ 1) : za2 (en x) (0 + o) r = za2 (en x) 0 (za2 (tr x.t) o r) := zy2 (c := en x) (zib x).1 (zib x).2 (by rw [za9]; exact h)
theorem z91 {w : World} {b off : Nat} {x : En} (h : w.rangeAt b off (enL x)) : w.cell? ⟨b, off + 0, none⟩ = some (sv x.t.n) := zwf (ylm h)
theorem zmq {w : World} {g : Nat} {t : TypeId} {fr : Nat × Nat} {x : En} (h : w.heap[g]? = some (.cells (en x) t fr)) : w.cell? ⟨g, 0, none⟩ = some (sv x.t.n) := by have := z91 (x := x) (zai h); rwa [Nat.zero_add] at this
theorem zsz (x : En) (y : SlV) : za2 (en x) 0 #[sv y] = en { x with t := { x.t with n := y } } := by
 rw [show 0 = 0 + 0 from rfl, yle x 0 _ (by simp), zl7, zuk]
attribute [go_sem] zsz
@[go_sem] theorem z5q (x : En) (y : SlV) : (en x).setIfInBounds 0 (sv y) = en { x with t := { x.t with n := y } } := by
 rw [zbg (by rw [zbc]; decide)]; exact zsz x y
theorem yln {w : World} {b off : Nat} {x : En} (h : w.rangeAt b off (enL x)) : w.rangeAt b (off + 2) (voL x.v) := by
 rw [← zrj]; exact zcz h (zic x).1 (zic x).2
theorem ylf (x : En) (o : Nat) (r : Array Value) (h : o + r.size ≤ 2) : za2 (en x) (2 + o) r = za2 (en x) 2 (za2 (vo x.v) o r) := zy2 (c := en x) (zic x).1 (zic x).2 (by rw [zbv]; exact h)
theorem z92 {w : World} {b off : Nat} {x : En} (h : w.rangeAt b off (enL x)) : w.cell? ⟨b, off + 2, none⟩ = some (sv x.v.l) := ydt (yln h)
theorem zmr {w : World} {g : Nat} {t : TypeId} {fr : Nat × Nat} {x : En} (h : w.heap[g]? = some (.cells (en x) t fr)) : w.cell? ⟨g, 2, none⟩ = some (sv x.v.l) := by have := z92 (x := x) (zai h); rwa [Nat.zero_add] at this
theorem zs0 (x : En) (y : SlV) : za2 (en x) 2 #[sv y] = en { x with v := { x.v with l := y } } := by
 rw [show 2 = 2 + 0 from rfl, ylf x 0 _ (by simp), zoz, zul]
attribute [go_sem] zs0
@[go_sem] theorem z5r (x : En) (y : SlV) : (en x).setIfInBounds 2 (sv y) = en { x with v := { x.v with l := y } } := by
 rw [zbg (by rw [zbc]; decide)]; exact zs0 x y
theorem zxa {w : World} {b off : Nat} {x : En} (h : w.rangeAt b off (enL x)) : w.rangeAt b (off + 8) (ccL x.fin) := by
 rw [← zby]; exact zcz h (zgv x).1 (zgv x).2
theorem zpk {w : World} {b off : Nat} {x : En} (h : w.rangeAt b off (enL x)) : w.cell? ⟨b, off + 8, none⟩ = some (num x.fin.epoch) := zfq (zxa h)
theorem zhu {w : World} {g : Nat} {t : TypeId} {fr : Nat × Nat} {x : En} (h : w.heap[g]? = some (.cells (en x) t fr)) : w.cell? ⟨g, 8, none⟩ = some (num x.fin.epoch) := by have := zpk (x := x) (zai h); rwa [Nat.zero_add] at this
theorem zrt {w : World} {b off : Nat} {x : En} (h : w.rangeAt b off (enL x)) : ldA w (.pointer (some ⟨b, off + 9, none⟩)) 32 = some (rc x.fin.root) := zfh (zxa h)
theorem zpj {w : World} {g : Nat} {t : TypeId} {fr : Nat × Nat} {x : En} (h : w.heap[g]? = some (.cells (en x) t fr)) : ldA w (.pointer (some ⟨g, 9, none⟩)) 32 = some (rc x.fin.root) := by have := zrt (x := x) (zai h); rwa [Nat.zero_add] at this
@[go_sem] theorem z5p (x : En) (y : SlV) : (en x).setIfInBounds 1 (sv y) = en { x with bal := y } := by
 rw [zbg (by rw [zbc]; decide)]; exact zmo x y
@[go_sem] theorem zun (x : En) (y : SlV) : (en x).setIfInBounds 4 (sv y) = en { x with w := y } := by
 rw [zbg (by rw [zbc]; decide)]; exact zum x y
@[go_sem] theorem z0l (x : En) (y : SlV) : (en x).setIfInBounds 5 (sv y) = en { x with late := y } := by
 rw [zbg (by rw [zbc]; decide)]; exact zpi x y
@[go_sem] theorem z3c (x : En) (y : SlV) : (en x).setIfInBounds 6 (sv y) = en { x with k := y } := by
 rw [zbg (by rw [zbc]; decide)]; exact z3a x y
@[go_sem] theorem z3b (x : En) (y : SlV) : (en x).setIfInBounds 7 (sv y) = en { x with j := y } := by
 rw [zbg (by rw [zbc]; decide)]; exact zuj x y
attribute [go_sem] zuk zmo zul zum zpi z3a zuj z5l
@[go_sem] theorem ylg (x : En) (p : Option Addr) (k c : Nat) : za2 (en x) 1 #[.slice p k c] = en { x with bal := ⟨p, k, c⟩ } := zmo x ⟨p, k, c⟩
@[go_sem] theorem yps (x : En) (p : Option Addr) (k c : Nat) : za2 (en x) 4 #[.slice p k c] = en { x with w := ⟨p, k, c⟩ } := zum x ⟨p, k, c⟩
@[go_sem] theorem ypr (x : En) (p : Option Addr) (k c : Nat) : za2 (en x) 7 #[.slice p k c] = en { x with j := ⟨p, k, c⟩ } := zuj x ⟨p, k, c⟩
theorem z49 : Tryz.prog.cellsOf 38 = 42 := by kernel_rfl
section
open Go.WideShapes Go.ChangeShapes
variable {H : Type} {enc : TypeId × Value → H} {w : World} {base : Nat} {sp : Nat → Bool} {held : Bool}
theorem yfb {fuel : Nat} {cs : List Value} {x : DataW H × List MemPlace} (hl : cs.length = 42) (h : DataW.trod enc Tryz.prog w base sp held fuel 38 cs = some x) : ∃ a : En, cs = enL a ∧ (∃ l, SlE Ene w (sv a.t.n) l) ∧ (∃ l, SlE Enum w (sv a.bal) l) ∧ (∃ l, SlE Elt w (sv a.v.l) l) ∧ (∃ l, SlE Enum w (sv a.w) l) ∧ (∃ l, SlE Eaa w (sv a.late) l) ∧ (∃ l, SlE Elk w (sv a.k) l) ∧ (∃ l, SlE Ecc w (sv a.j) l) := by
 obtain ⟨_, _, h0⟩ := zas (i := 0) zdq zhe rfl h
 rw [zsw] at h0
 obtain ⟨a0, e0, k0_0⟩ := z23 (by rw [List.length_take, List.length_drop]; omega) h0
 rw [← zgq] at e0
 obtain ⟨_, _, h1⟩ := zas (i := 1) zdq zhe rfl h
 rw [show Tryz.prog.cellsOf 25 = 1 from by kernel_rfl] at h1
 obtain ⟨a1, e1, k1_0⟩ := zsx h1
 obtain ⟨_, _, h2⟩ := zas (i := 2) zdq zhe rfl h
 rw [z5b] at h2
 obtain ⟨a2, e2, k2_0⟩ := yfg (by rw [List.length_take, List.length_drop]; omega) h2
 rw [← zrj] at e2
 obtain ⟨_, _, h3⟩ := zas (i := 3) zdq zhe rfl h
 rw [show Tryz.prog.cellsOf 25 = 1 from by kernel_rfl] at h3
 obtain ⟨a3, e3, k3_0⟩ := zsx h3
 obtain ⟨_, _, h4⟩ := zas (i := 4) zdq zhe rfl h
 rw [show Tryz.prog.cellsOf 30 = 1 from by kernel_rfl] at h4
 obtain ⟨a4, e4, k4_0⟩ := z87 h4
 obtain ⟨_, _, h5⟩ := zas (i := 5) zdq zhe rfl h
 rw [show Tryz.prog.cellsOf 31 = 1 from by kernel_rfl] at h5
 obtain ⟨a5, e5, k5_0⟩ := z9b h5
 obtain ⟨_, _, h6⟩ := zas (i := 6) zdq zhe rfl h
 rw [show Tryz.prog.cellsOf 32 = 1 from by kernel_rfl] at h6
 obtain ⟨a6, e6, k6_0⟩ := z9a h6
 obtain ⟨_, _, h7⟩ := zas (i := 7) zdq zhe rfl h
 rw [zcj] at h7
 obtain ⟨a7, e7⟩ := zf9 (by rw [List.length_take, List.length_drop]; omega) h7
 rw [← zby] at e7
 obtain ⟨_, _, h8⟩ := zas (i := 8) zdq zhe rfl h
 rw [zce] at h8
 obtain ⟨a8, e8⟩ := zc3 h8
 refine ⟨⟨a0, a1, a2, a3, a4, a5, a6, a7, a8⟩, ?_, k0_0, k1_0, k2_0, k3_0, k4_0, k5_0, k6_0⟩
 unfold enL
 have j0 := za6 cs 0 1
 rw [e0] at j0
 have j1 := za6 cs 1 1
 rw [e1] at j1
 have j2 := za6 cs 2 2
 rw [e2] at j2
 have j3 := za6 cs 4 1
 rw [e3] at j3
 have j4 := za6 cs 5 1
 rw [e4] at j4
 have j5 := za6 cs 6 1
 rw [e5] at j5
 have j6 := za6 cs 7 1
 rw [e6] at j6
 have j7 := za6 cs 8 33
 rw [e7] at j7
 have j8 := za6 cs 41 1
 rw [e8] at j8
 have jl : cs.drop 42 = [] := List.drop_of_length_le (by omega)
 rw [show (41 + 1) = 42 from rfl, jl, List.append_nil] at j8
 rw [← List.drop_zero (l := cs)]
 rw [← j0]
 rw [show cs.drop (0 + 1) = cs.drop 1 from rfl, ← j1]
 rw [show cs.drop (1 + 1) = cs.drop 2 from rfl, ← j2]
 rw [show cs.drop (2 + 2) = cs.drop 4 from rfl, ← j3]
 rw [show cs.drop (4 + 1) = cs.drop 5 from rfl, ← j4]
 rw [show cs.drop (5 + 1) = cs.drop 6 from rfl, ← j5]
 rw [show cs.drop (6 + 1) = cs.drop 7 from rfl, ← j6]
 rw [show cs.drop (7 + 1) = cs.drop 8 from rfl, ← j7]
 rw [show cs.drop (8 + 33) = cs.drop 41 from rfl, ← j8]
 try rfl
theorem open_en {r : Reach} {b0 : Nat} {v : Value} {d : DataW H} {ps : List MemPlace} (hval : Value.okWide Tryz.prog w r b0 38 v) (hd : DataW.Trod enc Tryz.prog w base sp held 38 v d ps) : ∃ a : En, v = .agg (en a) ∧ (∃ l, SlE Ene w (sv a.t.n) l) ∧ (∃ l, SlE Enum w (sv a.bal) l) ∧ (∃ l, SlE Elt w (sv a.v.l) l) ∧ (∃ l, SlE Enum w (sv a.w) l) ∧ (∃ l, SlE Eaa w (sv a.late) l) ∧ (∃ l, SlE Elk w (sv a.k) l) ∧ (∃ l, SlE Ecc w (sv a.j) l) := by
 obtain ⟨xs, rfl, hn⟩ := okWide_struct zdq hval
 rw [z49] at hn
 obtain ⟨fuel, hf⟩ := hd
 obtain ⟨a, ha, k0_0, k1_0, k2_0, k3_0, k4_0, k5_0, k6_0⟩ := yfb (cs := xs.toList) (by rw [Array.length_toList, hn]) hf
 exact ⟨a, by rw [show xs = en a from Array.toList_inj.1 ha], k0_0, k1_0, k2_0, k3_0, k4_0, k5_0, k6_0⟩
end
attribute [irreducible] en
end
section
open Go.RowKit
def byv (n : UInt8) : Value := .int .u8 (n.toNat : Int)
attribute [go_sem] byv
theorem z0a : Tryz.prog.cellsOf 5 = 1 := by kernel_rfl
def Ebyt : Lie UInt8 := ⟨5, 1, fun n => [byv n], by decide, fun _ => rfl, fun _ u h => by rw [List.mem_singleton.1 h]; rfl⟩
section
open Go.WideShapes Go.ChangeShapes
variable {H : Type} {enc : TypeId × Value → H} {w : World} {base : Nat} {sp : Nat → Bool} {held : Bool}
theorem z89 {fuel : Nat} {cs : List Value} {x : DataW H × List MemPlace} (h : DataW.trod enc Tryz.prog w base sp held fuel 5 cs = some x) : ∃ n : UInt8, cs = [byv n] := by
 obtain ⟨n, e1, _, e3⟩ := DataW.trod_int Tryz.underlying5 h
 have hb : (decide (IntKind.u8.min ≤ n) && decide (n ≤ IntKind.u8.max)) = true := e3
 rw [Bool.and_eq_true, decide_eq_true_eq, decide_eq_true_eq, show IntKind.u8.min = 0 from rfl, show IntKind.u8.max = 255 from rfl] at hb
 refine ⟨UInt8.ofNat n.toNat, ?_⟩
 rw [e1, byv, UInt8.toNat_ofNat', Nat.mod_eq_of_lt (by simp; omega)]
 congr 2
 omega
end
end
section
open Go.RowKit
section
open Go.WideShapes Go.ChangeShapes
variable {H : Type} {enc : TypeId × Value → H} {w : World} {base : Nat} {sp : Nat → Bool} {held : Bool}
theorem z85 {fuel : Nat} {v : Value} {x : DataW H × List MemPlace} (h : DataW.trod enc Tryz.prog w base sp held fuel 41 [v] = some x) : ∃ l : List UInt8, SlE Ebyt w v l :=
 zj5 Tryz.underlying41 z0a (fun _ _ _ h => z89 h) h
theorem z5c {fuel : Nat} {cs : List Value} {x : DataW H × List MemPlace} (h : DataW.trod enc Tryz.prog w base sp held fuel 41 cs = some x) : ∃ s : SlV, cs = [sv s] ∧ ∃ l : List UInt8, SlE Ebyt w (sv s) l := by
 rcases Deep.open_slice Tryz.underlying41 h with ⟨h1, _⟩ | ⟨a', len', cap', _, _, _, _, h1, _⟩
 ·
  subst h1
  exact ⟨⟨none, 0, 0⟩, rfl, [], zbr _ _ _ _⟩
 ·
  subst h1
  exact ⟨⟨some a', len', cap'⟩, rfl, z85 h⟩
end
end
section
open Go.RowKit
structure Cl where
 kind : Int
 raw : SlV
 a : Rt
 b : Rt
 slot : UInt64
def clL (x : Cl) : List Value := [.int .i64 x.kind] ++ ([sv x.raw] ++ ((rc x.a).toList ++ ((rc x.b).toList ++ ([num x.slot]))))
def cl (x : Cl) : Array Value := (clL x).toArray
theorem yk4 (x : Cl) : (cl x).toList = clL x := rfl
theorem ypg (x : Cl) : (clL x).length = 67 := by simp [clL, zav]
theorem zec (x : Cl) : (cl x).size = 67 := by rw [← Array.length_toList, yk4, ypg]
def zcl : Cl := ⟨0, ⟨none, 0, 0⟩, zr, zr, 0⟩
theorem yoh (w : World) : (zeroValue 43).run Tryz.prog w = .ok (.agg (cl zcl)) w := by kernel_rfl
@[go_sem ↓] theorem ys5 (ρ : Operand → Value) (dst : Option Tmp) (x : Operand) (ty : TypeId) (pos : String) (after : Array Edge) (guard : Option (Nat × Bool)) (w : World) :
  (execOp ρ { dst, op := .load 43 x, type := ty, pos, after, guard }).run Tryz.prog w = zkh (ldA w (ρ x) 67) w (zbn Tryz.prog ρ { dst, op := .load 43 x, type := ty, pos, after, guard } w) :=
 zb2 Tryz.isAgg43 Tryz.sizeOf43 ρ dst x ty pos after guard w
def places_cl : List (Nat × Nat) := [(0, 1), (1, 1), (2, 32), (34, 32), (66, 1)]
theorem yab : ∀ w : World, ((Tryz.prog.fieldsOf 43).mapM (m := Sem) fun f => do pure (f.offset, ← Go.sizeOf f.type)).run Tryz.prog w = .ok places_cl.toArray w := fun _ => by kernel_rfl
theorem zhq : Tryz.prog.underlying 43 = some (.struct (Tryz.prog.fieldsOf 43)) := by kernel_rfl
theorem zpv : (Tryz.prog.fieldsOf 43).toList.map (fun f => (f.name, f.type, f.offset)) = [("Kind", 3, 0), ("Raw", 41, 1), ("A", 34, 2), ("B", 34, 34), ("Slot", 27, 66)] := by kernel_rfl
@[go_sem ↓] theorem yrv (ρ : Operand → Value) (dst : Option Tmp) (p : Nat × Operand) (ps : List (Nat × Operand)) (ty : TypeId) (pos : String) (after : Array Edge) (guard : Option (Nat × Bool)) (w : World) :
  (execOp ρ { dst, op := .build 43 (p :: ps).toArray, type := ty, pos, after, guard }).run Tryz.prog w = zg7 ((zh2 places_cl (cl zcl) ((p.1, ρ p.2) :: ps.map fun p => (p.1, ρ p.2))).map .agg) w (zbn Tryz.prog ρ { dst, op := .build 43 (p :: ps).toArray, type := ty, pos, after, guard } w) :=
 zcg yoh zhq yab ρ dst (p :: ps).toArray ty pos after guard w
attribute [go_sem] places_cl zec
theorem zi5 (x : Cl) : clL x = ([]) ++ ([.int .i64 x.kind] ++ ([sv x.raw] ++ ((rc x.a).toList ++ ((rc x.b).toList ++ ([num x.slot]))))) ∧ ([] : List Value).length = 0 := by
 constructor
 ·
  unfold clL; simp
 ·
  rfl
theorem z5d {w : World} {b off : Nat} {x : Cl} (h : w.rangeAt b off (clL x)) : w.cell? ⟨b, off + 0, none⟩ = some (.int .i64 x.kind) := zbj h (zi5 x).1 (zi5 x).2
theorem zfr {w : World} {g : Nat} {t : TypeId} {fr : Nat × Nat} {x : Cl} (h : w.heap[g]? = some (.cells (cl x) t fr)) : w.cell? ⟨g, 0, none⟩ = some (.int .i64 x.kind) := by have := z5d (x := x) (zai h); rwa [Nat.zero_add] at this
theorem z0b (x : Cl) (y : Int) : za2 (cl x) 0 #[.int .i64 y] = cl { x with kind := y } := by
 rw [za3 (c := cl x) (r := #[.int .i64 y]) (zi5 x).1 (zi5 x).2 rfl]
 simp [cl, clL]
theorem zt7 (x : Cl) : clL x = ([.int .i64 x.kind] ++ [sv x.raw]) ++ ((rc x.a).toList ++ ((rc x.b).toList ++ ([num x.slot]))) ∧ ([.int .i64 x.kind] ++ [sv x.raw] : List Value).length = 2 := by
 constructor
 ·
  unfold clL; simp
 ·
  simp
theorem yk5 {w : World} {b off : Nat} {x : Cl} (h : w.rangeAt b off (clL x)) : ldA w (.pointer (some ⟨b, off + 2, none⟩)) 32 = some (rc x.a) := zca h (zt7 x).1 (zt7 x).2 (zav _)
theorem zoi {w : World} {g : Nat} {t : TypeId} {fr : Nat × Nat} {x : Cl} (h : w.heap[g]? = some (.cells (cl x) t fr)) : ldA w (.pointer (some ⟨g, 2, none⟩)) 32 = some (rc x.a) := by have := yk5 (x := x) (zai h); rwa [Nat.zero_add] at this
theorem yfh (x : Cl) (y : Rt) : za2 (cl x) 2 (rc y) = cl { x with a := y } := by
 rw [za3 (c := cl x) (zt7 x).1 (zt7 x).2 (by simp [zav])]
 simp [cl, clL]
theorem zt8 (x : Cl) : clL x = ([.int .i64 x.kind] ++ [sv x.raw] ++ (rc x.a).toList) ++ ((rc x.b).toList ++ ([num x.slot])) ∧ ([.int .i64 x.kind] ++ [sv x.raw] ++ (rc x.a).toList : List Value).length = 34 := by
 constructor
 ·
  unfold clL; simp
 ·
  simp [zav]
theorem yk6 {w : World} {b off : Nat} {x : Cl} (h : w.rangeAt b off (clL x)) : ldA w (.pointer (some ⟨b, off + 34, none⟩)) 32 = some (rc x.b) := zca h (zt8 x).1 (zt8 x).2 (zav _)
theorem zt9 {w : World} {g : Nat} {t : TypeId} {fr : Nat × Nat} {x : Cl} (h : w.heap[g]? = some (.cells (cl x) t fr)) : ldA w (.pointer (some ⟨g, 34, none⟩)) 32 = some (rc x.b) := by have := yk6 (x := x) (zai h); rwa [Nat.zero_add] at this
theorem yfi (x : Cl) (y : Rt) : za2 (cl x) 34 (rc y) = cl { x with b := y } := by
 rw [za3 (c := cl x) (zt8 x).1 (zt8 x).2 (by simp [zav])]
 simp [cl, clL]
theorem zi6 (x : Cl) : clL x = ([.int .i64 x.kind] ++ [sv x.raw] ++ (rc x.a).toList ++ (rc x.b).toList) ++ ([num x.slot] ++ ([])) ∧ ([.int .i64 x.kind] ++ [sv x.raw] ++ (rc x.a).toList ++ (rc x.b).toList : List Value).length = 66 := by
 constructor
 ·
  unfold clL; simp
 ·
  simp [zav]
theorem z5e {w : World} {b off : Nat} {x : Cl} (h : w.rangeAt b off (clL x)) : w.cell? ⟨b, off + 66, none⟩ = some (num x.slot) := zbj h (zi6 x).1 (zi6 x).2
theorem zpe {w : World} {g : Nat} {t : TypeId} {fr : Nat × Nat} {x : Cl} (h : w.heap[g]? = some (.cells (cl x) t fr)) : w.cell? ⟨g, 66, none⟩ = some (num x.slot) := by have := z5e (x := x) (zai h); rwa [Nat.zero_add] at this
theorem zj7 (x : Cl) (y : UInt64) : za2 (cl x) 66 #[num y] = cl { x with slot := y } := by
 rw [za3 (c := cl x) (r := #[num y]) (zi6 x).1 (zi6 x).2 rfl]
 simp [cl, clL]
attribute [go_sem] z0b yfh yfi zj7
@[go_sem] theorem yjc (x : Cl) (y : UInt64) : za2 (cl x) 66 #[.int .u64 (y.toNat : Int)] = cl { x with slot := y } := zj7 x y
theorem z48 : Tryz.prog.cellsOf 43 = 67 := by kernel_rfl
section
open Go.WideShapes Go.ChangeShapes
variable {H : Type} {enc : TypeId × Value → H} {w : World} {base : Nat} {sp : Nat → Bool} {held : Bool}
theorem yfa {fuel : Nat} {cs : List Value} {x : DataW H × List MemPlace} (hl : cs.length = 67) (h : DataW.trod enc Tryz.prog w base sp held fuel 43 cs = some x) : ∃ a : Cl, cs = clL a ∧ (∃ l, SlE Ebyt w (sv a.raw) l) := by
 obtain ⟨_, _, h0⟩ := zas (i := 0) zhq zpv rfl h
 rw [zhb] at h0
 obtain ⟨a0, e0⟩ := zkv h0
 obtain ⟨_, _, h1⟩ := zas (i := 1) zhq zpv rfl h
 rw [show Tryz.prog.cellsOf 41 = 1 from by kernel_rfl] at h1
 obtain ⟨a1, e1, k1_0⟩ := z5c h1
 obtain ⟨_, _, h2⟩ := zas (i := 2) zhq zpv rfl h
 rw [zcp] at h2
 obtain ⟨a2, e2⟩ := zc6 h2
 obtain ⟨_, _, h3⟩ := zas (i := 3) zhq zpv rfl h
 rw [zcp] at h3
 obtain ⟨a3, e3⟩ := zc6 h3
 obtain ⟨_, _, h4⟩ := zas (i := 4) zhq zpv rfl h
 rw [zce] at h4
 obtain ⟨a4, e4⟩ := zc3 h4
 refine ⟨⟨a0, a1, a2, a3, a4⟩, ?_, k1_0⟩
 unfold clL
 have j0 := za6 cs 0 1
 rw [e0] at j0
 have j1 := za6 cs 1 1
 rw [e1] at j1
 have j2 := za6 cs 2 32
 rw [e2] at j2
 have j3 := za6 cs 34 32
 rw [e3] at j3
 have j4 := za6 cs 66 1
 rw [e4] at j4
 have jl : cs.drop 67 = [] := List.drop_of_length_le (by omega)
 rw [show (66 + 1) = 67 from rfl, jl, List.append_nil] at j4
 rw [← List.drop_zero (l := cs)]
 rw [← j0]
 rw [show cs.drop (0 + 1) = cs.drop 1 from rfl, ← j1]
 rw [show cs.drop (1 + 1) = cs.drop 2 from rfl, ← j2]
 rw [show cs.drop (2 + 32) = cs.drop 34 from rfl, ← j3]
 rw [show cs.drop (34 + 32) = cs.drop 66 from rfl, ← j4]
 try rfl
theorem open_cl {r : Reach} {b0 : Nat} {v : Value} {d : DataW H} {ps : List MemPlace} (hval : Value.okWide Tryz.prog w r b0 43 v) (hd : DataW.Trod enc Tryz.prog w base sp held 43 v d ps) : ∃ a : Cl, v = .agg (cl a) ∧ (∃ l, SlE Ebyt w (sv a.raw) l) := by
 obtain ⟨xs, rfl, hn⟩ := okWide_struct zhq hval
 rw [z48] at hn
 obtain ⟨fuel, hf⟩ := hd
 obtain ⟨a, ha, k1_0⟩ := yfa (cs := xs.toList) (by rw [Array.length_toList, hn]) hf
 exact ⟨a, by rw [show xs = cl a from Array.toList_inj.1 ha], k1_0⟩
end
attribute [irreducible] cl
end
end Go.Proofs.YtkalofboioffiaaGreat
