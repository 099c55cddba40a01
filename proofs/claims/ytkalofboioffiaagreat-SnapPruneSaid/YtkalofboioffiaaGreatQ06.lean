import Derived.Test.YtkalofboioffiaaGreatQ05
namespace Go.Proofs.YtkalofboioffiaaGreat
open Go.RowKit
set_option maxRecDepth 200000
set_option maxHeartbeats 64000000
section
open Go.RowKit
structure Ck where
 epoch : UInt64
 root : Rt
theorem Ck.ext {x y : Ck} (h0 : x.epoch = y.epoch) (h1 : x.root = y.root) : x = y := by cases x; cases y; simp_all
instance : DecidableEq Ck := fun x y => decidable_of_iff (x.epoch = y.epoch ∧ x.root = y.root) ⟨fun h => Ck.ext h.1 h.2, fun h => by subst h; exact ⟨rfl, rfl⟩⟩
def ccL (x : Ck) : List Value := [num x.epoch] ++ ((rc x.root).toList)
def cc (x : Ck) : Array Value := (ccL x).toArray
theorem zby (x : Ck) : (cc x).toList = ccL x := rfl
theorem yjb (x : Ck) : (ccL x).length = 33 := by simp [ccL, zav]
theorem za5 (x : Ck) : (cc x).size = 33 := by rw [← Array.length_toList, zby, yjb]
theorem zgs (x : Ck) : ∀ v ∈ ccL x, v.oneCell' = true := by
 intro v hv
 unfold ccL at hv
 simp only [List.mem_append, List.mem_singleton] at hv
 rcases hv with rfl | hv
 ·
  rfl
 ·
  exact zis _ v hv
@[go_sem] theorem ytu (x : Ck) : okA 33 (.agg (cc x)) = true := by
 show ((cc x).size == 33 && (cc x).all (·.oneCell')) = true
 rw [show (cc x).all (·.oneCell') = true from zea (zgs x), za5]; rfl
def zcc : Ck := ⟨0, zr⟩
theorem zwu (w : World) : (zeroValue 36).run Tryz.prog w = .ok (.agg (cc zcc)) w := by kernel_rfl
@[go_sem ↓] theorem ys4 (ρ : Operand → Value) (dst : Option Tmp) (x : Operand) (ty : TypeId) (pos : String) (after : Array Edge) (guard : Option (Nat × Bool)) (w : World) :
  (execOp ρ { dst, op := .load 36 x, type := ty, pos, after, guard }).run Tryz.prog w = zkh (ldA w (ρ x) 33) w (zbn Tryz.prog ρ { dst, op := .load 36 x, type := ty, pos, after, guard } w) :=
 zb2 Tryz.isAgg36 Tryz.sizeOf36 ρ dst x ty pos after guard w
@[go_sem ↓] theorem yr7 (ρ : Operand → Value) (dst : Option Tmp) (x y : Operand) (ty : TypeId) (pos : String) (after : Array Edge) (guard : Option (Nat × Bool)) (w : World) :
  (execOp ρ { dst, op := .store 36 x y, type := ty, pos, after, guard }).run Tryz.prog w = zjo (wrA w (ρ x) 33 && okA 33 (ρ y)) (stA w (ρ x) (ρ y)) (zbn Tryz.prog ρ { dst, op := .store 36 x y, type := ty, pos, after, guard } w) :=
 zbm Tryz.sizeOf36 ρ dst x y ty pos after guard w
@[go_sem ↓] theorem yri (ρ : Operand → Value) (dst : Option Tmp) (ty : TypeId) (pos : String) (after : Array Edge) (guard : Option (Nat × Bool)) (w : World) :
  (execOp ρ { dst, op := .alloc 36, type := ty, pos, after, guard }).run Tryz.prog w = .ok (.value (.pointer (some ⟨w.heap.size, 0, none⟩))) (w.alloc (.cells (cc zcc) 36)) := by
 unfold execOp
 simp only [Instr.alloc, Sem.run_bind, zwu, Result.andThen_ok]
 rfl
def places_cc : List (Nat × Nat) := [(0, 1), (1, 32)]
theorem yaa : ∀ w : World, ((Tryz.prog.fieldsOf 36).mapM (m := Sem) fun f => do pure (f.offset, ← Go.sizeOf f.type)).run Tryz.prog w = .ok places_cc.toArray w := fun _ => by kernel_rfl
theorem zhp : Tryz.prog.underlying 36 = some (.struct (Tryz.prog.fieldsOf 36)) := by kernel_rfl
theorem zuw : (Tryz.prog.fieldsOf 36).toList.map (fun f => (f.name, f.type, f.offset)) = [("Epoch", 27, 0), ("Root", 34, 1)] := by kernel_rfl
@[go_sem ↓] theorem yru (ρ : Operand → Value) (dst : Option Tmp) (p : Nat × Operand) (ps : List (Nat × Operand)) (ty : TypeId) (pos : String) (after : Array Edge) (guard : Option (Nat × Bool)) (w : World) :
  (execOp ρ { dst, op := .build 36 (p :: ps).toArray, type := ty, pos, after, guard }).run Tryz.prog w = zg7 ((zh2 places_cc (cc zcc) ((p.1, ρ p.2) :: ps.map fun p => (p.1, ρ p.2))).map .agg) w (zbn Tryz.prog ρ { dst, op := .build 36 (p :: ps).toArray, type := ty, pos, after, guard } w) :=
 zcg zwu zhp yaa ρ dst (p :: ps).toArray ty pos after guard w
attribute [go_sem] places_cc za5
theorem zg9 (x : Ck) : ccL x = ([]) ++ ([num x.epoch] ++ ((rc x.root).toList)) ∧ ([] : List Value).length = 0 := by
 constructor
 ·
  unfold ccL; simp
 ·
  rfl
theorem zf7 (x : Ck) : (cc x)[0]? = some (num x.epoch) := zij (zg9 x).1 (zg9 x).2
theorem zfq {w : World} {b off : Nat} {x : Ck} (h : w.rangeAt b off (ccL x)) : w.cell? ⟨b, off + 0, none⟩ = some (num x.epoch) := zbj h (zg9 x).1 (zg9 x).2
theorem zh7 {w : World} {g : Nat} {t : TypeId} {fr : Nat × Nat} {x : Ck} (h : w.heap[g]? = some (.cells (cc x) t fr)) : w.cell? ⟨g, 0, none⟩ = some (num x.epoch) := by have := zfq (x := x) (zai h); rwa [Nat.zero_add] at this
theorem zfg (x : Ck) : ccL x = ([num x.epoch]) ++ ((rc x.root).toList ++ ([])) ∧ ([num x.epoch] : List Value).length = 1 := by
 constructor
 ·
  unfold ccL; simp
 ·
  simp
theorem zha (x : Ck) : (cc x).extract 1 (1 + 32) = rc x.root := zdt (zfg x).1 (zfg x).2 (zav _)
theorem zfh {w : World} {b off : Nat} {x : Ck} (h : w.rangeAt b off (ccL x)) : ldA w (.pointer (some ⟨b, off + 1, none⟩)) 32 = some (rc x.root) := zca h (zfg x).1 (zfg x).2 (zav _)
theorem zdr {w : World} {g : Nat} {t : TypeId} {fr : Nat × Nat} {x : Ck} (h : w.heap[g]? = some (.cells (cc x) t fr)) : ldA w (.pointer (some ⟨g, 1, none⟩)) 32 = some (rc x.root) := by have := zfh (x := x) (zai h); rwa [Nat.zero_add] at this
theorem zz8 (x : Ck) (y : Rt) : za2 (cc x) 1 (rc y) = cc { x with root := y } := by
 rw [za3 (c := cc x) (zfg x).1 (zfg x).2 (by simp [zav])]
 simp [cc, ccL]
attribute [go_sem] zz8
theorem yce (c : Array Value) (o : Nat) (r : Ck) (h : c.extract o (o + 33) = cc r) (w : World) : (part 36 c o).run Tryz.prog w = .ok (.agg (cc r)) w := by
 rw [z35 (P := Tryz.prog) Tryz.isAgg36 Tryz.sizeOf36, h]
theorem yjh (d : Nat) (x y : Ck) (w : World) : (Op.equalIn (d + 3) 36 (.agg (cc x)) (.agg (cc y))).run Tryz.prog w = .ok (decide (x = y)) w := by
 rw [show d + 3 = (d + 2) + 1 from rfl, run_equalIn_struct w (d + 2) _ _ _ zhp (by kernel_rfl)]
 rw [zde zuw (by decide) (zyq _ _ _ (zf7 x) w) (zyq _ _ _ (zf7 y) w) (yf5 (d + 1) _ _ w)
  (fun _ h1 => zde h1 (by decide) (zvu _ _ _ (zha x) w) (zvu _ _ _ (zha y) w) (yf6 (d + 0) _ _ w)
  (fun _ hn => zut hn))]
 congr 1
 rw [Bool.eq_iff_iff]
 simp only [Bool.and_eq_true, decide_eq_true_iff, and_true]
 exact ⟨fun h => Ck.ext h.1 h.2, fun h => by subst h; exact ⟨rfl, rfl⟩⟩
@[go_sem ↓] theorem yt8 (x y : Ck) (w : World) : (Op.equalIn 10000 36 (.agg (cc x)) (.agg (cc y))).run Tryz.prog w = .ok (decide (x = y)) w := yjh 9997 x y w
theorem zcj : Tryz.prog.cellsOf 36 = 33 := by kernel_rfl
section
open Go.WideShapes Go.ChangeShapes
variable {H : Type} {enc : TypeId × Value → H} {w : World} {base : Nat} {sp : Nat → Bool} {held : Bool}
theorem zf9 {fuel : Nat} {cs : List Value} {x : DataW H × List MemPlace} (hl : cs.length = 33) (h : DataW.trod enc Tryz.prog w base sp held fuel 36 cs = some x) : ∃ a : Ck, cs = ccL a := by
 obtain ⟨_, _, h0⟩ := zas (i := 0) zhp zuw rfl h
 rw [zce] at h0
 obtain ⟨a0, e0⟩ := zc3 h0
 obtain ⟨_, _, h1⟩ := zas (i := 1) zhp zuw rfl h
 rw [zcp] at h1
 obtain ⟨a1, e1⟩ := zc6 h1
 refine ⟨⟨a0, a1⟩, ?_⟩
 unfold ccL
 have j0 := za6 cs 0 1
 rw [e0] at j0
 have j1 := za6 cs 1 32
 rw [e1] at j1
 have jl : cs.drop 33 = [] := List.drop_of_length_le (by omega)
 rw [show (1 + 32) = 33 from rfl, jl, List.append_nil] at j1
 rw [← List.drop_zero (l := cs)]
 rw [← j0]
 rw [show cs.drop (0 + 1) = cs.drop 1 from rfl, ← j1]
 try rfl
end
def Ecc : Lie Ck := ⟨36, 33, ccL, by decide, yjb, zgs⟩
attribute [irreducible] cc
end
section
open Go.RowKit
structure Sn where
 ver : Int
 t : Tr
 head : Rt
 just : Ck
 fin : Ck
def snL (x : Sn) : List Value := [.int .i64 x.ver] ++ ((tr x.t).toList ++ ((rc x.head).toList ++ ((cc x.just).toList ++ ((cc x.fin).toList))))
def sn (x : Sn) : Array Value := (snL x).toArray
theorem yn2 (x : Sn) : (sn x).toList = snL x := rfl
theorem yqt (x : Sn) : (snL x).length = 100 := by simp [snL, zav, za9, za5]
theorem ze2 (x : Sn) : (sn x).size = 100 := by rw [← Array.length_toList, yn2, yqt]
theorem yqu (x : Sn) : ∀ v ∈ snL x, v.oneCell' = true := by
 intro v hv
 unfold snL at hv
 simp only [List.mem_append, List.mem_singleton] at hv
 rcases hv with rfl | hv | hv | hv | hv
 ·
  rfl
 ·
  exact z4r _ v (by rw [zgq] at hv; exact hv)
 ·
  exact zis _ v hv
 ·
  exact zgs _ v (by rw [zby] at hv; exact hv)
 ·
  exact zgs _ v (by rw [zby] at hv; exact hv)
@[go_sem] theorem yt4 (x : Sn) : okA 100 (.agg (sn x)) = true := by
 show ((sn x).size == 100 && (sn x).all (·.oneCell')) = true
 rw [show (sn x).all (·.oneCell') = true from zea (yqu x), ze2]; rfl
def zsn : Sn := ⟨0, ztr, zr, zcc, zcc⟩
theorem z2m (w : World) : (zeroValue 40).run Tryz.prog w = .ok (.agg (sn zsn)) w := by kernel_rfl
@[go_sem ↓] theorem ytb (ρ : Operand → Value) (dst : Option Tmp) (x : Operand) (ty : TypeId) (pos : String) (after : Array Edge) (guard : Option (Nat × Bool)) (w : World) :
  (execOp ρ { dst, op := .load 40 x, type := ty, pos, after, guard }).run Tryz.prog w = zkh (ldA w (ρ x) 100) w (zbn Tryz.prog ρ { dst, op := .load 40 x, type := ty, pos, after, guard } w) :=
 zb2 Tryz.isAgg40 Tryz.sizeOf40 ρ dst x ty pos after guard w
@[go_sem ↓] theorem ysg (ρ : Operand → Value) (dst : Option Tmp) (x y : Operand) (ty : TypeId) (pos : String) (after : Array Edge) (guard : Option (Nat × Bool)) (w : World) :
  (execOp ρ { dst, op := .store 40 x y, type := ty, pos, after, guard }).run Tryz.prog w = zjo (wrA w (ρ x) 100 && okA 100 (ρ y)) (stA w (ρ x) (ρ y)) (zbn Tryz.prog ρ { dst, op := .store 40 x y, type := ty, pos, after, guard } w) :=
 zbm Tryz.sizeOf40 ρ dst x y ty pos after guard w
@[go_sem ↓] theorem yrr (ρ : Operand → Value) (dst : Option Tmp) (ty : TypeId) (pos : String) (after : Array Edge) (guard : Option (Nat × Bool)) (w : World) :
  (execOp ρ { dst, op := .alloc 40, type := ty, pos, after, guard }).run Tryz.prog w = .ok (.value (.pointer (some ⟨w.heap.size, 0, none⟩))) (w.alloc (.cells (sn zsn) 40)) := by
 unfold execOp
 simp only [Instr.alloc, Sem.run_bind, z2m, Result.andThen_ok]
 rfl
def places_sn : List (Nat × Nat) := [(0, 1), (1, 1), (2, 32), (34, 33), (67, 33)]
theorem zxi : ∀ w : World, ((Tryz.prog.fieldsOf 40).mapM (m := Sem) fun f => do pure (f.offset, ← Go.sizeOf f.type)).run Tryz.prog w = .ok places_sn.toArray w := fun _ => by kernel_rfl
theorem zgj : Tryz.prog.underlying 40 = some (.struct (Tryz.prog.fieldsOf 40)) := by kernel_rfl
theorem zpx : (Tryz.prog.fieldsOf 40).toList.map (fun f => (f.name, f.type, f.offset)) = [("Ver", 3, 0), ("T", 24, 1), ("Head", 34, 2), ("Just", 36, 34), ("Fin", 36, 67)] := by kernel_rfl
@[go_sem ↓] theorem yr2 (ρ : Operand → Value) (dst : Option Tmp) (p : Nat × Operand) (ps : List (Nat × Operand)) (ty : TypeId) (pos : String) (after : Array Edge) (guard : Option (Nat × Bool)) (w : World) :
  (execOp ρ { dst, op := .build 40 (p :: ps).toArray, type := ty, pos, after, guard }).run Tryz.prog w = zg7 ((zh2 places_sn (sn zsn) ((p.1, ρ p.2) :: ps.map fun p => (p.1, ρ p.2))).map .agg) w (zbn Tryz.prog ρ { dst, op := .build 40 (p :: ps).toArray, type := ty, pos, after, guard } w) :=
 zcg z2m zgj zxi ρ dst (p :: ps).toArray ty pos after guard w
@[go_sem ↓] theorem ypb (ρ : Operand → Value) (dst : Option Tmp) (ty : TypeId) (pos : String) (after : Array Edge) (guard : Option (Nat × Bool)) (w : World) :
  (execOp ρ { dst, op := .build 40 #[], type := ty, pos, after, guard }).run Tryz.prog w = .ok (.value (.agg (sn zsn))) w :=
 zcg z2m zgj zxi ρ dst #[] ty pos after guard w
attribute [go_sem] places_sn ze2
theorem zl1 (x : Sn) : snL x = ([]) ++ ([.int .i64 x.ver] ++ ((tr x.t).toList ++ ((rc x.head).toList ++ ((cc x.just).toList ++ ((cc x.fin).toList))))) ∧ ([] : List Value).length = 0 := by
 constructor
 ·
  unfold snL; simp
 ·
  rfl
theorem yc9 {w : World} {b off : Nat} {x : Sn} (h : w.rangeAt b off (snL x)) : w.cell? ⟨b, off + 0, none⟩ = some (.int .i64 x.ver) := zbj h (zl1 x).1 (zl1 x).2
theorem z7u {w : World} {g : Nat} {t : TypeId} {fr : Nat × Nat} {x : Sn} (h : w.heap[g]? = some (.cells (sn x) t fr)) : w.cell? ⟨g, 0, none⟩ = some (.int .i64 x.ver) := by have := yc9 (x := x) (zai h); rwa [Nat.zero_add] at this
theorem z7r (x : Sn) (y : Int) : za2 (sn x) 0 #[.int .i64 y] = sn { x with ver := y } := by
 rw [za3 (c := sn x) (r := #[.int .i64 y]) (zl1 x).1 (zl1 x).2 rfl]
 simp [sn, snL]
theorem zm9 (x : Sn) : snL x = ([.int .i64 x.ver]) ++ ((tr x.t).toList ++ ((rc x.head).toList ++ ((cc x.just).toList ++ ((cc x.fin).toList)))) ∧ ([.int .i64 x.ver] : List Value).length = 1 := by
 constructor
 ·
  unfold snL; simp
 ·
  simp
theorem yn3 {w : World} {b off : Nat} {x : Sn} (h : w.rangeAt b off (snL x)) : ldA w (.pointer (some ⟨b, off + 1, none⟩)) 1 = some (tr x.t) := zca h (zm9 x).1 (zm9 x).2 (za9 _)
theorem yic {w : World} {g : Nat} {t : TypeId} {fr : Nat × Nat} {x : Sn} (h : w.heap[g]? = some (.cells (sn x) t fr)) : ldA w (.pointer (some ⟨g, 1, none⟩)) 1 = some (tr x.t) := by have := yn3 (x := x) (zai h); rwa [Nat.zero_add] at this
theorem yib (x : Sn) (y : Tr) : za2 (sn x) 1 (tr y) = sn { x with t := y } := by
 rw [za3 (c := sn x) (zm9 x).1 (zm9 x).2 (by simp [za9])]
 simp [sn, snL]
theorem zjh (x : Sn) : snL x = ([.int .i64 x.ver] ++ (tr x.t).toList) ++ ((rc x.head).toList ++ ((cc x.just).toList ++ ((cc x.fin).toList))) ∧ ([.int .i64 x.ver] ++ (tr x.t).toList : List Value).length = 2 := by
 constructor
 ·
  unfold snL; simp
 ·
  simp [za9]
theorem z7v {w : World} {b off : Nat} {x : Sn} (h : w.rangeAt b off (snL x)) : ldA w (.pointer (some ⟨b, off + 2, none⟩)) 32 = some (rc x.head) := zca h (zjh x).1 (zjh x).2 (zav _)
theorem z1z {w : World} {g : Nat} {t : TypeId} {fr : Nat × Nat} {x : Sn} (h : w.heap[g]? = some (.cells (sn x) t fr)) : ldA w (.pointer (some ⟨g, 2, none⟩)) 32 = some (rc x.head) := by have := z7v (x := x) (zai h); rwa [Nat.zero_add] at this
theorem z1x (x : Sn) (y : Rt) : za2 (sn x) 2 (rc y) = sn { x with head := y } := by
 rw [za3 (c := sn x) (zjh x).1 (zjh x).2 (by simp [zav])]
 simp [sn, snL]
theorem zfm (x : Sn) : snL x = ([.int .i64 x.ver] ++ (tr x.t).toList ++ (rc x.head).toList) ++ ((cc x.just).toList ++ ((cc x.fin).toList)) ∧ ([.int .i64 x.ver] ++ (tr x.t).toList ++ (rc x.head).toList : List Value).length = 34 := by
 constructor
 ·
  unfold snL; simp
 ·
  simp [zav, za9]
theorem z7w {w : World} {b off : Nat} {x : Sn} (h : w.rangeAt b off (snL x)) : ldA w (.pointer (some ⟨b, off + 34, none⟩)) 33 = some (cc x.just) := zca h (zfm x).1 (zfm x).2 (za5 _)
theorem z10 {w : World} {g : Nat} {t : TypeId} {fr : Nat × Nat} {x : Sn} (h : w.heap[g]? = some (.cells (sn x) t fr)) : ldA w (.pointer (some ⟨g, 34, none⟩)) 33 = some (cc x.just) := by have := z7w (x := x) (zai h); rwa [Nat.zero_add] at this
theorem z1y (x : Sn) (y : Ck) : za2 (sn x) 34 (cc y) = sn { x with just := y } := by
 rw [za3 (c := sn x) (zfm x).1 (zfm x).2 (by simp [za5])]
 simp [sn, snL]
theorem zg5 (x : Sn) : snL x = ([.int .i64 x.ver] ++ (tr x.t).toList ++ (rc x.head).toList ++ (cc x.just).toList) ++ ((cc x.fin).toList ++ ([])) ∧ ([.int .i64 x.ver] ++ (tr x.t).toList ++ (rc x.head).toList ++ (cc x.just).toList : List Value).length = 67 := by
 constructor
 ·
  unfold snL; simp
 ·
  simp [zav, za9, za5]
theorem yc7 {w : World} {b off : Nat} {x : Sn} (h : w.rangeAt b off (snL x)) : ldA w (.pointer (some ⟨b, off + 67, none⟩)) 33 = some (cc x.fin) := zca h (zg5 x).1 (zg5 x).2 (za5 _)
theorem z7s {w : World} {g : Nat} {t : TypeId} {fr : Nat × Nat} {x : Sn} (h : w.heap[g]? = some (.cells (sn x) t fr)) : ldA w (.pointer (some ⟨g, 67, none⟩)) 33 = some (cc x.fin) := by have := yc7 (x := x) (zai h); rwa [Nat.zero_add] at this
theorem z7q (x : Sn) (y : Ck) : za2 (sn x) 67 (cc y) = sn { x with fin := y } := by
 rw [za3 (c := sn x) (zg5 x).1 (zg5 x).2 (by simp [za5])]
 simp [sn, snL]
theorem yn4 {w : World} {b off : Nat} {x : Sn} (h : w.rangeAt b off (snL x)) : w.rangeAt b (off + 1) (trL x.t) := by
 rw [← zgq]; exact zcz h (zm9 x).1 (zm9 x).2
theorem yc8 {w : World} {b off : Nat} {x : Sn} (h : w.rangeAt b off (snL x)) : w.cell? ⟨b, off + 1, none⟩ = some (sv x.t.n) := zwf (yn4 h)
theorem z7t {w : World} {g : Nat} {t : TypeId} {fr : Nat × Nat} {x : Sn} (h : w.heap[g]? = some (.cells (sn x) t fr)) : w.cell? ⟨g, 1, none⟩ = some (sv x.t.n) := by have := yc8 (x := x) (zai h); rwa [Nat.zero_add] at this
theorem ztt {w : World} {b off : Nat} {x : Sn} (h : w.rangeAt b off (snL x)) : w.rangeAt b (off + 34) (ccL x.just) := by
 rw [← zby]; exact zcz h (zfm x).1 (zfm x).2
theorem zob {w : World} {b off : Nat} {x : Sn} (h : w.rangeAt b off (snL x)) : w.cell? ⟨b, off + 34, none⟩ = some (num x.just.epoch) := zfq (ztt h)
theorem zna {w : World} {g : Nat} {t : TypeId} {fr : Nat × Nat} {x : Sn} (h : w.heap[g]? = some (.cells (sn x) t fr)) : w.cell? ⟨g, 34, none⟩ = some (num x.just.epoch) := by have := zob (x := x) (zai h); rwa [Nat.zero_add] at this
theorem zrc {w : World} {b off : Nat} {x : Sn} (h : w.rangeAt b off (snL x)) : ldA w (.pointer (some ⟨b, off + 35, none⟩)) 32 = some (rc x.just.root) := zfh (ztt h)
theorem zoa {w : World} {g : Nat} {t : TypeId} {fr : Nat × Nat} {x : Sn} (h : w.heap[g]? = some (.cells (sn x) t fr)) : ldA w (.pointer (some ⟨g, 35, none⟩)) 32 = some (rc x.just.root) := by have := zrc (x := x) (zai h); rwa [Nat.zero_add] at this
theorem yda {w : World} {b off : Nat} {x : Sn} (h : w.rangeAt b off (snL x)) : w.rangeAt b (off + 67) (ccL x.fin) := by
 rw [← zby]; exact zcz h (zg5 x).1 (zg5 x).2
theorem zr9 {w : World} {b off : Nat} {x : Sn} (h : w.rangeAt b off (snL x)) : ldA w (.pointer (some ⟨b, off + 68, none⟩)) 32 = some (rc x.fin.root) := zfh (yda h)
theorem zrb {w : World} {g : Nat} {t : TypeId} {fr : Nat × Nat} {x : Sn} (h : w.heap[g]? = some (.cells (sn x) t fr)) : ldA w (.pointer (some ⟨g, 68, none⟩)) 32 = some (rc x.fin.root) := by have := zr9 (x := x) (zai h); rwa [Nat.zero_add] at this
attribute [go_sem] z7r yib z1x z1y z7q
theorem z5a : Tryz.prog.cellsOf 40 = 100 := by kernel_rfl
section
open Go.WideShapes Go.ChangeShapes
variable {H : Type} {enc : TypeId × Value → H} {w : World} {base : Nat} {sp : Nat → Bool} {held : Bool}
theorem yff {fuel : Nat} {cs : List Value} {x : DataW H × List MemPlace} (hl : cs.length = 100) (h : DataW.trod enc Tryz.prog w base sp held fuel 40 cs = some x) : ∃ a : Sn, cs = snL a ∧ (∃ l, SlE Ene w (sv a.t.n) l) := by
 obtain ⟨_, _, h0⟩ := zas (i := 0) zgj zpx rfl h
 rw [zhb] at h0
 obtain ⟨a0, e0⟩ := zkv h0
 obtain ⟨_, _, h1⟩ := zas (i := 1) zgj zpx rfl h
 rw [zsw] at h1
 obtain ⟨a1, e1, k1_0⟩ := z23 (by rw [List.length_take, List.length_drop]; omega) h1
 rw [← zgq] at e1
 obtain ⟨_, _, h2⟩ := zas (i := 2) zgj zpx rfl h
 rw [zcp] at h2
 obtain ⟨a2, e2⟩ := zc6 h2
 obtain ⟨_, _, h3⟩ := zas (i := 3) zgj zpx rfl h
 rw [zcj] at h3
 obtain ⟨a3, e3⟩ := zf9 (by rw [List.length_take, List.length_drop]; omega) h3
 rw [← zby] at e3
 obtain ⟨_, _, h4⟩ := zas (i := 4) zgj zpx rfl h
 rw [zcj] at h4
 obtain ⟨a4, e4⟩ := zf9 (by rw [List.length_take, List.length_drop]; omega) h4
 rw [← zby] at e4
 refine ⟨⟨a0, a1, a2, a3, a4⟩, ?_, k1_0⟩
 unfold snL
 have j0 := za6 cs 0 1
 rw [e0] at j0
 have j1 := za6 cs 1 1
 rw [e1] at j1
 have j2 := za6 cs 2 32
 rw [e2] at j2
 have j3 := za6 cs 34 33
 rw [e3] at j3
 have j4 := za6 cs 67 33
 rw [e4] at j4
 have jl : cs.drop 100 = [] := List.drop_of_length_le (by omega)
 rw [show (67 + 33) = 100 from rfl, jl, List.append_nil] at j4
 rw [← List.drop_zero (l := cs)]
 rw [← j0]
 rw [show cs.drop (0 + 1) = cs.drop 1 from rfl, ← j1]
 rw [show cs.drop (1 + 1) = cs.drop 2 from rfl, ← j2]
 rw [show cs.drop (2 + 32) = cs.drop 34 from rfl, ← j3]
 rw [show cs.drop (34 + 33) = cs.drop 67 from rfl, ← j4]
 try rfl
theorem open_sn {r : Reach} {b0 : Nat} {v : Value} {d : DataW H} {ps : List MemPlace} (hval : Value.okWide Tryz.prog w r b0 40 v) (hd : DataW.Trod enc Tryz.prog w base sp held 40 v d ps) : ∃ a : Sn, v = .agg (sn a) ∧ (∃ l, SlE Ene w (sv a.t.n) l) := by
 obtain ⟨xs, rfl, hn⟩ := okWide_struct zgj hval
 rw [z5a] at hn
 obtain ⟨fuel, hf⟩ := hd
 obtain ⟨a, ha, k1_0⟩ := yff (cs := xs.toList) (by rw [Array.length_toList, hn]) hf
 exact ⟨a, by rw [show xs = sn a from Array.toList_inj.1 ha], k1_0⟩
end
attribute [irreducible] sn
end
section
open Go.RowKit
theorem yst (n : Nat) (a b : Int) (w : World) : (Op.equalIn (n + 1) 49 (.int .i64 a) (.int .i64 b)).run Tryz.prog w = .ok (decide (a = b)) w := by
 rw [run_equalIn_int w n 49 .i64 .i64 _ _ Tryz.underlying49]
 rfl
theorem yqf (c : Array Value) (o : Nat) (n : Int) (h : c[o]? = some (.int .i64 n)) (w : World) : (part 49 c o).run Tryz.prog w = .ok (.int .i64 n) w := zot (P := Tryz.prog) Tryz.isAgg49 c o _ h w
section
open Go.WideShapes Go.ChangeShapes
variable {H : Type} {enc : TypeId × Value → H} {w : World} {base : Nat} {sp : Nat → Bool} {held : Bool}
end
end
section
open Go.RowKit
structure Rs where
 e : Int
 r : Rt
 is : Bool
 c : Ck
theorem Rs.ext {x y : Rs} (h0 : x.e = y.e) (h1 : x.r = y.r) (h2 : x.is = y.is) (h3 : x.c = y.c) : x = y := by cases x; cases y; simp_all
instance : DecidableEq Rs := fun x y => decidable_of_iff (x.e = y.e ∧ x.r = y.r ∧ x.is = y.is ∧ x.c = y.c) ⟨fun h => Rs.ext h.1 h.2.1 h.2.2.1 h.2.2.2, fun h => by subst h; exact ⟨rfl, rfl, rfl, rfl⟩⟩
def rsL (x : Rs) : List Value := [.int .i64 x.e] ++ ((rc x.r).toList ++ ([.bool x.is] ++ ((cc x.c).toList)))
def rs (x : Rs) : Array Value := (rsL x).toArray
theorem ynn (x : Rs) : (rs x).toList = rsL x := rfl
theorem yqj (x : Rs) : (rsL x).length = 67 := by simp [rsL, zav, za5]
theorem za1 (x : Rs) : (rs x).size = 67 := by rw [← Array.length_toList, ynn, yqj]
theorem yqk (x : Rs) : ∀ v ∈ rsL x, v.oneCell' = true := by
 intro v hv
 unfold rsL at hv
 simp only [List.mem_append, List.mem_singleton] at hv
 rcases hv with rfl | hv | rfl | hv
 ·
  rfl
 ·
  exact zis _ v hv
 ·
  rfl
 ·
  exact zgs _ v (by rw [zby] at hv; exact hv)
@[go_sem] theorem yt2 (x : Rs) : okA 67 (.agg (rs x)) = true := by
 show ((rs x).size == 67 && (rs x).all (·.oneCell')) = true
 rw [show (rs x).all (·.oneCell') = true from zea (yqk x), za1]; rfl
def zrs : Rs := ⟨0, zr, false, zcc⟩
theorem yef (w : World) : (zeroValue 51).run Tryz.prog w = .ok (.agg (rs zrs)) w := by kernel_rfl
@[go_sem ↓] theorem yse (ρ : Operand → Value) (dst : Option Tmp) (x y : Operand) (ty : TypeId) (pos : String) (after : Array Edge) (guard : Option (Nat × Bool)) (w : World) :
  (execOp ρ { dst, op := .store 51 x y, type := ty, pos, after, guard }).run Tryz.prog w = zjo (wrA w (ρ x) 67 && okA 67 (ρ y)) (stA w (ρ x) (ρ y)) (zbn Tryz.prog ρ { dst, op := .store 51 x y, type := ty, pos, after, guard } w) :=
 zbm Tryz.sizeOf51 ρ dst x y ty pos after guard w
@[go_sem ↓] theorem yrp (ρ : Operand → Value) (dst : Option Tmp) (ty : TypeId) (pos : String) (after : Array Edge) (guard : Option (Nat × Bool)) (w : World) :
  (execOp ρ { dst, op := .alloc 51, type := ty, pos, after, guard }).run Tryz.prog w = .ok (.value (.pointer (some ⟨w.heap.size, 0, none⟩))) (w.alloc (.cells (rs zrs) 51)) := by
 unfold execOp
 simp only [Instr.alloc, Sem.run_bind, yef, Result.andThen_ok]
 rfl
def places_rs : List (Nat × Nat) := [(0, 1), (1, 32), (33, 1), (34, 33)]
theorem yag : ∀ w : World, ((Tryz.prog.fieldsOf 51).mapM (m := Sem) fun f => do pure (f.offset, ← Go.sizeOf f.type)).run Tryz.prog w = .ok places_rs.toArray w := fun _ => by kernel_rfl
theorem z4t : Tryz.prog.underlying 51 = some (.struct (Tryz.prog.fieldsOf 51)) := by kernel_rfl
theorem ylx : (Tryz.prog.fieldsOf 51).toList.map (fun f => (f.name, f.type, f.offset)) = [("E", 49, 0), ("R", 34, 1), ("Is", 4, 33), ("C", 36, 34)] := by kernel_rfl
@[go_sem ↓] theorem yr0 (ρ : Operand → Value) (dst : Option Tmp) (p : Nat × Operand) (ps : List (Nat × Operand)) (ty : TypeId) (pos : String) (after : Array Edge) (guard : Option (Nat × Bool)) (w : World) :
  (execOp ρ { dst, op := .build 51 (p :: ps).toArray, type := ty, pos, after, guard }).run Tryz.prog w = zg7 ((zh2 places_rs (rs zrs) ((p.1, ρ p.2) :: ps.map fun p => (p.1, ρ p.2))).map .agg) w (zbn Tryz.prog ρ { dst, op := .build 51 (p :: ps).toArray, type := ty, pos, after, guard } w) :=
 zcg yef z4t yag ρ dst (p :: ps).toArray ty pos after guard w
attribute [go_sem] places_rs za1
theorem zm6 (x : Rs) : rsL x = ([]) ++ ([.int .i64 x.e] ++ ((rc x.r).toList ++ ([.bool x.is] ++ ((cc x.c).toList)))) ∧ ([] : List Value).length = 0 := by
 constructor
 ·
  unfold rsL; simp
 ·
  rfl
theorem z4i (x : Rs) : (rs x)[0]? = some (.int .i64 x.e) := zij (zm6 x).1 (zm6 x).2
theorem yno {w : World} {b off : Nat} {x : Rs} (h : w.rangeAt b off (rsL x)) : w.cell? ⟨b, off + 0, none⟩ = some (.int .i64 x.e) := zbj h (zm6 x).1 (zm6 x).2
theorem zfc {w : World} {g : Nat} {t : TypeId} {fr : Nat × Nat} {x : Rs} (h : w.heap[g]? = some (.cells (rs x) t fr)) : w.cell? ⟨g, 0, none⟩ = some (.int .i64 x.e) := by have := yno (x := x) (zai h); rwa [Nat.zero_add] at this
theorem yhw (x : Rs) (y : Int) : za2 (rs x) 0 #[.int .i64 y] = rs { x with e := y } := by
 rw [za3 (c := rs x) (r := #[.int .i64 y]) (zm6 x).1 (zm6 x).2 rfl]
 simp [rs, rsL]
theorem zm7 (x : Rs) : rsL x = ([.int .i64 x.e]) ++ ((rc x.r).toList ++ ([.bool x.is] ++ ((cc x.c).toList))) ∧ ([.int .i64 x.e] : List Value).length = 1 := by
 constructor
 ·
  unfold rsL; simp
 ·
  simp
theorem zv2 (x : Rs) : (rs x).extract 1 (1 + 32) = rc x.r := zdt (zm7 x).1 (zm7 x).2 (zav _)
theorem ynp {w : World} {b off : Nat} {x : Rs} (h : w.rangeAt b off (rsL x)) : ldA w (.pointer (some ⟨b, off + 1, none⟩)) 32 = some (rc x.r) := zca h (zm7 x).1 (zm7 x).2 (zav _)
theorem zjg {w : World} {g : Nat} {t : TypeId} {fr : Nat × Nat} {x : Rs} (h : w.heap[g]? = some (.cells (rs x) t fr)) : ldA w (.pointer (some ⟨g, 1, none⟩)) 32 = some (rc x.r) := by have := ynp (x := x) (zai h); rwa [Nat.zero_add] at this
theorem yhx (x : Rs) (y : Rt) : za2 (rs x) 1 (rc y) = rs { x with r := y } := by
 rw [za3 (c := rs x) (zm7 x).1 (zm7 x).2 (by simp [zav])]
 simp [rs, rsL]
theorem zjf (x : Rs) : rsL x = ([.int .i64 x.e] ++ (rc x.r).toList) ++ ([.bool x.is] ++ ((cc x.c).toList)) ∧ ([.int .i64 x.e] ++ (rc x.r).toList : List Value).length = 33 := by
 constructor
 ·
  unfold rsL; simp
 ·
  simp [zav]
theorem zy4 (x : Rs) : (rs x)[33]? = some (.bool x.is) := zij (zjf x).1 (zjf x).2
theorem yhy {w : World} {b off : Nat} {x : Rs} (h : w.rangeAt b off (rsL x)) : w.cell? ⟨b, off + 33, none⟩ = some (.bool x.is) := zbj h (zjf x).1 (zjf x).2
theorem zfy {w : World} {g : Nat} {t : TypeId} {fr : Nat × Nat} {x : Rs} (h : w.heap[g]? = some (.cells (rs x) t fr)) : w.cell? ⟨g, 33, none⟩ = some (.bool x.is) := by have := yhy (x := x) (zai h); rwa [Nat.zero_add] at this
theorem ycz (x : Rs) (y : Bool) : za2 (rs x) 33 #[.bool y] = rs { x with is := y } := by
 rw [za3 (c := rs x) (r := #[.bool y]) (zjf x).1 (zjf x).2 rfl]
 simp [rs, rsL]
theorem zv1 (x : Rs) : rsL x = ([.int .i64 x.e] ++ (rc x.r).toList ++ [.bool x.is]) ++ ((cc x.c).toList ++ ([])) ∧ ([.int .i64 x.e] ++ (rc x.r).toList ++ [.bool x.is] : List Value).length = 34 := by
 constructor
 ·
  unfold rsL; simp
 ·
  simp [zav]
theorem z4h (x : Rs) : (rs x).extract 34 (34 + 33) = cc x.c := zdt (zv1 x).1 (zv1 x).2 (za5 _)
theorem yhv (x : Rs) (y : Ck) : za2 (rs x) 34 (cc y) = rs { x with c := y } := by
 rw [za3 (c := rs x) (zv1 x).1 (zv1 x).2 (by simp [za5])]
 simp [rs, rsL]
attribute [go_sem] yhw yhx ycz yhv
theorem ypw (d : Nat) (x y : Rs) (w : World) : (Op.equalIn (d + 4) 51 (.agg (rs x)) (.agg (rs y))).run Tryz.prog w = .ok (decide (x = y)) w := by
 rw [show d + 4 = (d + 3) + 1 from rfl, run_equalIn_struct w (d + 3) _ _ _ z4t (by kernel_rfl)]
 rw [zde ylx (by decide) (yqf _ _ _ (z4i x) w) (yqf _ _ _ (z4i y) w) (yst (d + 2) _ _ w)
  (fun _ h1 => zde h1 (by decide) (zvu _ _ _ (zv2 x) w) (zvu _ _ _ (zv2 y) w) (yf6 (d + 1) _ _ w)
  (fun _ h2 => zde h2 (by decide) (yhg _ _ _ (zy4 x) w) (yhg _ _ _ (zy4 y) w) (ypt (d + 2) _ _ w)
  (fun _ h3 => zde h3 (by decide) (yce _ _ _ (z4h x) w) (yce _ _ _ (z4h y) w) (yjh (d + 0) _ _ w)
  (fun _ hn => zut hn))))]
 congr 1
 rw [Bool.eq_iff_iff]
 simp only [Bool.and_eq_true, decide_eq_true_iff, and_true]
 exact ⟨fun h => Rs.ext h.1 h.2.1 h.2.2.1 h.2.2.2, fun h => by subst h; exact ⟨rfl, rfl, rfl, rfl⟩⟩
@[go_sem ↓] theorem yub (x y : Rs) (w : World) : (Op.equalIn 10000 51 (.agg (rs x)) (.agg (rs y))).run Tryz.prog w = .ok (decide (x = y)) w := ypw 9996 x y w
section
open Go.WideShapes Go.ChangeShapes
variable {H : Type} {enc : TypeId × Value → H} {w : World} {base : Nat} {sp : Nat → Bool} {held : Bool}
end
attribute [irreducible] rs
end
end Go.Proofs.YtkalofboioffiaaGreat
