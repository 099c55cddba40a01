import Derived.Test.YtkalofboioffiaaGreatT03
namespace Go.Proofs.YtkalofboioffiaaGreat
open Go.RowKit
set_option maxRecDepth 200000
set_option maxHeartbeats 64000000
section
open Go.RowKit
theorem yfu : (Tryz.prog.info? 63).map (fun i => (i.zero, i.size, i.bytes)) = some (some (.agg (ne zne)), 35, 56) := by kernel_rfl
@[go_sem ↓] theorem z9q (ρ : Operand → Value) (dst : Option Tmp) (x : Operand) (ty : TypeId) (pos : String) (after : Array Edge) (guard : Option (Nat × Bool)) (w : World) (hx : okA 35 (ρ x) = true) :
  (execOp ρ { dst, op := .buildSlice 22 1 #[(0, x)], type := ty, pos, after, guard }).run Tryz.prog w = .ok (.value (.slice (some ⟨w.heap.size, 0, none⟩) 1 1)) (w.alloc (.cells (ze4 (ρ x)) 63)) := by
 obtain ⟨c, hc, hn⟩ : ∃ c, ρ x = .agg c ∧ c.size = 35 := by
  unfold okA at hx
  split at hx
  ·
   rename_i c hc
   rw [Bool.and_eq_true, beq_iff_eq] at hx
   exact ⟨c, hc, hx.1⟩
  ·
   cases hx
 have hp : (1 * 35 > 2 ^ 24) = False := by simp
 have h0 : (1 * 35 = 0) = False := by simp
 unfold execOp
 simp only [Instr.buildSlice, Sem.run_bind, run_underlying Tryz.underlying22, Result.andThen_ok, Tryz.sizeOf63, hp, h0, if_false, zx4, Value.cells]
 simp only [List.map_toArray, List.map_cons, List.map_nil, hc, Instr.fill, Value.cells, hn, Nat.zero_mul]
 simp [ze4]
 rw [zgx _ c (by simp [hn])]
 rfl
section
open Go.WideShapes Go.ChangeShapes
variable {H : Type} {enc : TypeId × Value → H} {w : World} {base : Nat} {sp : Nat → Bool} {held : Bool}
theorem z9x {fuel : Nat} {v : Value} {x : DataW H × List MemPlace} (h : DataW.trod enc Tryz.prog w base sp held fuel 22 [v] = some x) : ∃ l : List Nd, SlE Ene w v l :=
 zh6 Tryz.underlying22 zph (fun _ cs _ h => z93 (by obtain ⟨_, _, _, _, hl, _⟩ := DataW.trod_struct zgg h; rw [hl, zph]) h) h
theorem z4f {fuel : Nat} {cs : List Value} {x : DataW H × List MemPlace} (h : DataW.trod enc Tryz.prog w base sp held fuel 22 cs = some x) : ∃ s : SlV, cs = [sv s] ∧ ∃ l : List Nd, SlE Ene w (sv s) l := by
 rcases Deep.open_slice Tryz.underlying22 h with ⟨h1, _⟩ | ⟨a', len', cap', _, _, _, _, h1, _⟩
 ·
  subst h1
  exact ⟨⟨none, 0, 0⟩, rfl, [], zbg _ _ _ _⟩
 ·
  subst h1
  exact ⟨⟨some a', len', cap'⟩, rfl, z9x h⟩
end
end
section
open Go.RowKit
structure Tr where
 n : SlV
def trL (x : Tr) : List Value := [sv x.n]
def tr (x : Tr) : Array Value := (trL x).toArray
theorem zgd (x : Tr) : (tr x).toList = trL x := rfl
theorem yjw (x : Tr) : (trL x).length = 1 := by simp [trL]
theorem zbn (x : Tr) : (tr x).size = 1 := by rw [← Array.length_toList, zgd, yjw]
theorem zzw (x : Tr) : ∀ v ∈ trL x, v.oneCell' = true := by
 intro v hv
 unfold trL at hv
 simp only [List.mem_singleton] at hv
 rcases hv with rfl
 ·
  rfl
@[go_sem] theorem ym2 (x : Tr) : okA 1 (.agg (tr x)) = true := by
 show ((tr x).size == 1 && (tr x).all (·.oneCell')) = true
 rw [show (tr x).all (·.oneCell') = true from zdo (zzw x), zbn]; rfl
def ztr : Tr := ⟨⟨none, 0, 0⟩⟩
theorem zx6 (w : World) : (zeroValue 24).run Tryz.prog w = .ok (.agg (tr ztr)) w := by kernel_rfl
@[go_sem ↓] theorem yl7 (ρ : Operand → Value) (dst : Option Tmp) (x : Operand) (ty : TypeId) (pos : String) (after : Array Edge) (guard : Option (Nat × Bool)) (w : World) :
  (execOp ρ { dst, op := .load 24 x, type := ty, pos, after, guard }).run Tryz.prog w = zi5 (ldA w (ρ x) 1) w (zbf Tryz.prog ρ { dst, op := .load 24 x, type := ty, pos, after, guard } w) :=
 zbq Tryz.isAgg24 Tryz.sizeOf24 ρ dst x ty pos after guard w
@[go_sem ↓] theorem ylf (ρ : Operand → Value) (dst : Option Tmp) (x y : Operand) (ty : TypeId) (pos : String) (after : Array Edge) (guard : Option (Nat × Bool)) (w : World) :
  (execOp ρ { dst, op := .store 24 x y, type := ty, pos, after, guard }).run Tryz.prog w = zhv (wrA w (ρ x) 1 && okA 1 (ρ y)) (stA w (ρ x) (ρ y)) (zbf Tryz.prog ρ { dst, op := .store 24 x y, type := ty, pos, after, guard } w) :=
 zbe Tryz.sizeOf24 ρ dst x y ty pos after guard w
@[go_sem ↓] theorem ykp (ρ : Operand → Value) (dst : Option Tmp) (ty : TypeId) (pos : String) (after : Array Edge) (guard : Option (Nat × Bool)) (w : World) :
  (execOp ρ { dst, op := .alloc 24, type := ty, pos, after, guard }).run Tryz.prog w = .ok (.value (.pointer (some ⟨w.heap.size, 0, none⟩))) (w.alloc (.cells (tr ztr) 24)) := by
 unfold execOp
 simp only [Instr.alloc, Sem.run_bind, zx6, Result.andThen_ok]
 rfl
def places_tr : List (Nat × Nat) := [(0, 1)]
theorem zs8 : ∀ w : World, ((Tryz.prog.fieldsOf 24).mapM (m := Sem) fun f => do pure (f.offset, ← Go.sizeOf f.type)).run Tryz.prog w = .ok places_tr.toArray w := fun _ => by kernel_rfl
theorem zsl : Tryz.prog.underlying 24 = some (.struct (Tryz.prog.fieldsOf 24)) := by kernel_rfl
theorem yff : (Tryz.prog.fieldsOf 24).toList.map (fun f => (f.name, f.type, f.offset)) = [("N", 22, 0)] := by kernel_rfl
@[go_sem ↓] theorem yk0 (ρ : Operand → Value) (dst : Option Tmp) (p : Nat × Operand) (ps : List (Nat × Operand)) (ty : TypeId) (pos : String) (after : Array Edge) (guard : Option (Nat × Bool)) (w : World) :
  (execOp ρ { dst, op := .build 24 (p :: ps).toArray, type := ty, pos, after, guard }).run Tryz.prog w = zgh ((zgp places_tr (tr ztr) ((p.1, ρ p.2) :: ps.map fun p => (p.1, ρ p.2))).map .agg) w (zbf Tryz.prog ρ { dst, op := .build 24 (p :: ps).toArray, type := ty, pos, after, guard } w) :=
 zbv zx6 zsl zs8 ρ dst (p :: ps).toArray ty pos after guard w
@[go_sem ↓] theorem yia (ρ : Operand → Value) (dst : Option Tmp) (ty : TypeId) (pos : String) (after : Array Edge) (guard : Option (Nat × Bool)) (w : World) :
  (execOp ρ { dst, op := .build 24 #[], type := ty, pos, after, guard }).run Tryz.prog w = .ok (.value (.agg (tr ztr))) w :=
 zbv zx6 zsl zs8 ρ dst #[] ty pos after guard w
attribute [go_sem] places_tr zbn
theorem zkp (x : Tr) : trL x = ([]) ++ ([sv x.n] ++ ([])) ∧ ([] : List Value).length = 0 := by
 constructor
 ·
  unfold trL; simp
 ·
  rfl
theorem ycy (x : Tr) : (tr x)[0]? = some (sv x.n) := zgy (zkp x).1 (zkp x).2
@[go_sem] theorem ymj (x : Tr) (h : 0 < (tr x).size) : (tr x)[0]'h = sv x.n := by have := ycy x; rw [Array.getElem?_eq_getElem h] at this; exact Option.some.inj this
theorem zsi {w : World} {b off : Nat} {x : Tr} (h : w.rangeAt b off (trL x)) : w.cell? ⟨b, off + 0, none⟩ = some (sv x.n) := zbj h (zkp x).1 (zkp x).2
theorem ycz {w : World} {g : Nat} {t : TypeId} {fr : Nat × Nat} {x : Tr} (h : w.heap[g]? = some (.cells (tr x) t fr)) : w.cell? ⟨g, 0, none⟩ = some (sv x.n) := by have := zsi (x := x) (zak h); rwa [Nat.zero_add] at this
theorem zzx (x : Tr) (y : SlV) : zba (tr x) 0 #[sv y] = tr { x with n := y } := by
 rw [za6 (c := tr x) (r := #[sv y]) (zkp x).1 (zkp x).2 rfl]
 simp [tr, trL]
attribute [go_sem] zzx
@[go_sem] theorem yjx (x : Tr) (p : Option Addr) (k c : Nat) : zba (tr x) 0 #[.slice p k c] = tr { x with n := ⟨p, k, c⟩ } := zzx x ⟨p, k, c⟩
theorem zpi : Tryz.prog.cellsOf 24 = 1 := by kernel_rfl
section
open Go.WideShapes Go.ChangeShapes
variable {H : Type} {enc : TypeId × Value → H} {w : World} {base : Nat} {sp : Nat → Bool} {held : Bool}
theorem zye {fuel : Nat} {cs : List Value} {x : DataW H × List MemPlace} (hl : cs.length = 1) (h : DataW.trod enc Tryz.prog w base sp held fuel 24 cs = some x) : ∃ a : Tr, cs = trL a ∧ (∃ l, SlE Ene w (sv a.n) l) := by
 obtain ⟨_, _, h0⟩ := zav (i := 0) zsl yff rfl h
 rw [show Tryz.prog.cellsOf 22 = 1 from by kernel_rfl] at h0
 obtain ⟨a0, e0, k0⟩ := z4f h0
 refine ⟨⟨a0⟩, ?_, k0⟩
 unfold trL
 have j0 := za9 cs 0 1
 rw [e0] at j0
 have jl : cs.drop 1 = [] := List.drop_of_length_le (by omega)
 rw [show (0 + 1) = 1 from rfl, jl, List.append_nil] at j0
 rw [← List.drop_zero (l := cs)]
 rw [← j0]
 try rfl
end
attribute [irreducible] tr
end
section
open Go.RowKit
structure Ck where
 epoch : UInt64
 root : Rt
theorem Ck.ext {x y : Ck} (h0 : x.epoch = y.epoch) (h1 : x.root = y.root) : x = y := by cases x; cases y; simp_all
instance : DecidableEq Ck := fun x y => decidable_of_iff (x.epoch = y.epoch ∧ x.root = y.root) ⟨fun h => Ck.ext h.1 h.2, fun h => by subst h; exact ⟨rfl, rfl⟩⟩
def ccL (x : Ck) : List Value := [num x.epoch] ++ ((rc x.root).toList)
def cc (x : Ck) : Array Value := (ccL x).toArray
theorem zbm (x : Ck) : (cc x).toList = ccL x := rfl
theorem ydk (x : Ck) : (ccL x).length = 33 := by simp [ccL, zay]
theorem zax (x : Ck) : (cc x).size = 33 := by rw [← Array.length_toList, zbm, ydk]
theorem zfk (x : Ck) : ∀ v ∈ ccL x, v.oneCell' = true := by
 intro v hv
 unfold ccL at hv
 simp only [List.mem_append, List.mem_singleton] at hv
 rcases hv with rfl | hv
 ·
  rfl
 ·
  exact zg5 _ v hv
@[go_sem] theorem ymr (x : Ck) : okA 33 (.agg (cc x)) = true := by
 show ((cc x).size == 33 && (cc x).all (·.oneCell')) = true
 rw [show (cc x).all (·.oneCell') = true from zdo (zfk x), zax]; rfl
def zcc : Ck := ⟨0, zr⟩
theorem zss (w : World) : (zeroValue 36).run Tryz.prog w = .ok (.agg (cc zcc)) w := by kernel_rfl
@[go_sem ↓] theorem ylz (ρ : Operand → Value) (dst : Option Tmp) (x : Operand) (ty : TypeId) (pos : String) (after : Array Edge) (guard : Option (Nat × Bool)) (w : World) :
  (execOp ρ { dst, op := .load 36 x, type := ty, pos, after, guard }).run Tryz.prog w = zi5 (ldA w (ρ x) 33) w (zbf Tryz.prog ρ { dst, op := .load 36 x, type := ty, pos, after, guard } w) :=
 zbq Tryz.isAgg36 Tryz.sizeOf36 ρ dst x ty pos after guard w
@[go_sem ↓] theorem yk5 (ρ : Operand → Value) (dst : Option Tmp) (x y : Operand) (ty : TypeId) (pos : String) (after : Array Edge) (guard : Option (Nat × Bool)) (w : World) :
  (execOp ρ { dst, op := .store 36 x y, type := ty, pos, after, guard }).run Tryz.prog w = zhv (wrA w (ρ x) 33 && okA 33 (ρ y)) (stA w (ρ x) (ρ y)) (zbf Tryz.prog ρ { dst, op := .store 36 x y, type := ty, pos, after, guard } w) :=
 zbe Tryz.sizeOf36 ρ dst x y ty pos after guard w
@[go_sem ↓] theorem ykf (ρ : Operand → Value) (dst : Option Tmp) (ty : TypeId) (pos : String) (after : Array Edge) (guard : Option (Nat × Bool)) (w : World) :
  (execOp ρ { dst, op := .alloc 36, type := ty, pos, after, guard }).run Tryz.prog w = .ok (.value (.pointer (some ⟨w.heap.size, 0, none⟩))) (w.alloc (.cells (cc zcc) 36)) := by
 unfold execOp
 simp only [Instr.alloc, Sem.run_bind, zss, Result.andThen_ok]
 rfl
def places_cc : List (Nat × Nat) := [(0, 1), (1, 32)]
theorem z44 : ∀ w : World, ((Tryz.prog.fieldsOf 36).mapM (m := Sem) fun f => do pure (f.offset, ← Go.sizeOf f.type)).run Tryz.prog w = .ok places_cc.toArray w := fun _ => by kernel_rfl
theorem zge : Tryz.prog.underlying 36 = some (.struct (Tryz.prog.fieldsOf 36)) := by kernel_rfl
theorem zq3 : (Tryz.prog.fieldsOf 36).toList.map (fun f => (f.name, f.type, f.offset)) = [("Epoch", 27, 0), ("Root", 34, 1)] := by kernel_rfl
@[go_sem ↓] theorem ykr (ρ : Operand → Value) (dst : Option Tmp) (p : Nat × Operand) (ps : List (Nat × Operand)) (ty : TypeId) (pos : String) (after : Array Edge) (guard : Option (Nat × Bool)) (w : World) :
  (execOp ρ { dst, op := .build 36 (p :: ps).toArray, type := ty, pos, after, guard }).run Tryz.prog w = zgh ((zgp places_cc (cc zcc) ((p.1, ρ p.2) :: ps.map fun p => (p.1, ρ p.2))).map .agg) w (zbf Tryz.prog ρ { dst, op := .build 36 (p :: ps).toArray, type := ty, pos, after, guard } w) :=
 zbv zss zge z44 ρ dst (p :: ps).toArray ty pos after guard w
attribute [go_sem] places_cc zax
theorem zfv (x : Ck) : ccL x = ([]) ++ ([num x.epoch] ++ ((rc x.root).toList)) ∧ ([] : List Value).length = 0 := by
 constructor
 ·
  unfold ccL; simp
 ·
  rfl
theorem ze3 (x : Ck) : (cc x)[0]? = some (num x.epoch) := zgy (zfv x).1 (zfv x).2
theorem zfy {w : World} {b off : Nat} {x : Ck} (h : w.rangeAt b off (ccL x)) : w.cell? ⟨b, off + 0, none⟩ = some (num x.epoch) := zbj h (zfv x).1 (zfv x).2
theorem zgt {w : World} {g : Nat} {t : TypeId} {fr : Nat × Nat} {x : Ck} (h : w.heap[g]? = some (.cells (cc x) t fr)) : w.cell? ⟨g, 0, none⟩ = some (num x.epoch) := by have := zfy (x := x) (zak h); rwa [Nat.zero_add] at this
theorem zei (x : Ck) : ccL x = ([num x.epoch]) ++ ((rc x.root).toList ++ ([])) ∧ ([num x.epoch] : List Value).length = 1 := by
 constructor
 ·
  unfold ccL; simp
 ·
  simp
theorem zfw (x : Ck) : (cc x).extract 1 (1 + 32) = rc x.root := zck (zei x).1 (zei x).2 (zay _)
theorem zc6 {w : World} {b off : Nat} {x : Ck} (h : w.rangeAt b off (ccL x)) : ldA w (.pointer (some ⟨b, off + 1, none⟩)) 32 = some (rc x.root) := zb8 h (zei x).1 (zei x).2 (zay _)
theorem zb0 {w : World} {g : Nat} {t : TypeId} {fr : Nat × Nat} {x : Ck} (h : w.heap[g]? = some (.cells (cc x) t fr)) : ldA w (.pointer (some ⟨g, 1, none⟩)) 32 = some (rc x.root) := by have := zc6 (x := x) (zak h); rwa [Nat.zero_add] at this
theorem zvr (x : Ck) (y : Rt) : zba (cc x) 1 (rc y) = cc { x with root := y } := by
 rw [za6 (c := cc x) (zei x).1 (zei x).2 (by simp [zay])]
 simp [cc, ccL]
attribute [go_sem] zvr
theorem zrw (c : Array Value) (o : Nat) (r : Ck) (h : c.extract o (o + 33) = cc r) (w : World) : (part 36 c o).run Tryz.prog w = .ok (.agg (cc r)) w := by
 rw [zza (P := Tryz.prog) Tryz.isAgg36 Tryz.sizeOf36, h]
theorem z43 (d : Nat) (x y : Ck) (w : World) : (Op.equalIn (d + 3) 36 (.agg (cc x)) (.agg (cc y))).run Tryz.prog w = .ok (decide (x = y)) w := by
 rw [show d + 3 = (d + 2) + 1 from rfl, run_equalIn_struct w (d + 2) _ _ _ zge (by kernel_rfl)]
 rw [zce zq3 (by decide) (zua _ _ _ (ze3 x) w) (zua _ _ _ (ze3 y) w) (yap (d + 1) _ _ w)
  (fun _ h1 => zce h1 (by decide) (zny _ _ _ (zfw x) w) (zny _ _ _ (zfw y) w) (z42 (d + 0) _ _ w)
  (fun _ hn => zmx hn))]
 congr 1
 rw [Bool.eq_iff_iff]
 simp only [Bool.and_eq_true, decide_eq_true_iff, and_true]
 exact ⟨fun h => Ck.ext h.1 h.2, fun h => by subst h; exact ⟨rfl, rfl⟩⟩
@[go_sem ↓] theorem ym5 (x y : Ck) (w : World) : (Op.equalIn 10000 36 (.agg (cc x)) (.agg (cc y))).run Tryz.prog w = .ok (decide (x = y)) w := z43 9997 x y w
theorem zbw : Tryz.prog.cellsOf 36 = 33 := by kernel_rfl
section
open Go.WideShapes Go.ChangeShapes
variable {H : Type} {enc : TypeId × Value → H} {w : World} {base : Nat} {sp : Nat → Bool} {held : Bool}
theorem ze5 {fuel : Nat} {cs : List Value} {x : DataW H × List MemPlace} (hl : cs.length = 33) (h : DataW.trod enc Tryz.prog w base sp held fuel 36 cs = some x) : ∃ a : Ck, cs = ccL a := by
 obtain ⟨_, _, h0⟩ := zav (i := 0) zge zq3 rfl h
 rw [zb9] at h0
 obtain ⟨a0, e0⟩ := zcy h0
 obtain ⟨_, _, h1⟩ := zav (i := 1) zge zq3 rfl h
 rw [zcr] at h1
 obtain ⟨a1, e1⟩ := zdr h1
 refine ⟨⟨a0, a1⟩, ?_⟩
 unfold ccL
 have j0 := za9 cs 0 1
 rw [e0] at j0
 have j1 := za9 cs 1 32
 rw [e1] at j1
 have jl : cs.drop 33 = [] := List.drop_of_length_le (by omega)
 rw [show (1 + 32) = 33 from rfl, jl, List.append_nil] at j1
 rw [← List.drop_zero (l := cs)]
 rw [← j0]
 rw [show cs.drop (0 + 1) = cs.drop 1 from rfl, ← j1]
 try rfl
end
def Ecc : Lie Ck := ⟨36, 33, ccL, by decide, ydk, zfk⟩
attribute [irreducible] cc
end
section
open Go.RowKit
structure Sn where
 ver : Int
 t : Tr
 head : Rt
 just : Ck
 fin : Ck
def snL (x : Sn) : List Value := [.int .i64 x.ver] ++ ((tr x.t).toList ++ ((rc x.head).toList ++ ((cc x.just).toList ++ ((cc x.fin).toList))))
def sn (x : Sn) : Array Value := (snL x).toArray
theorem yg5 (x : Sn) : (sn x).toList = snL x := rfl
theorem yjr (x : Sn) : (snL x).length = 100 := by simp [snL, zay, zbn, zax]
theorem zcb (x : Sn) : (sn x).size = 100 := by rw [← Array.length_toList, yg5, yjr]
theorem yjs (x : Sn) : ∀ v ∈ snL x, v.oneCell' = true := by
 intro v hv
 unfold snL at hv
 simp only [List.mem_append, List.mem_singleton] at hv
 rcases hv with rfl | hv | hv | hv | hv
 ·
  rfl
 ·
  exact zzw _ v (by rw [zgd] at hv; exact hv)
 ·
  exact zg5 _ v hv
 ·
  exact zfk _ v (by rw [zbm] at hv; exact hv)
 ·
  exact zfk _ v (by rw [zbm] at hv; exact hv)
@[go_sem] theorem ym1 (x : Sn) : okA 100 (.agg (sn x)) = true := by
 show ((sn x).size == 100 && (sn x).all (·.oneCell')) = true
 rw [show (sn x).all (·.oneCell') = true from zdo (yjs x), zcb]; rfl
def zsn : Sn := ⟨0, ztr, zr, zcc, zcc⟩
theorem zx5 (w : World) : (zeroValue 40).run Tryz.prog w = .ok (.agg (sn zsn)) w := by kernel_rfl
@[go_sem ↓] theorem yl6 (ρ : Operand → Value) (dst : Option Tmp) (x : Operand) (ty : TypeId) (pos : String) (after : Array Edge) (guard : Option (Nat × Bool)) (w : World) :
  (execOp ρ { dst, op := .load 40 x, type := ty, pos, after, guard }).run Tryz.prog w = zi5 (ldA w (ρ x) 100) w (zbf Tryz.prog ρ { dst, op := .load 40 x, type := ty, pos, after, guard } w) :=
 zbq Tryz.isAgg40 Tryz.sizeOf40 ρ dst x ty pos after guard w
@[go_sem ↓] theorem yle (ρ : Operand → Value) (dst : Option Tmp) (x y : Operand) (ty : TypeId) (pos : String) (after : Array Edge) (guard : Option (Nat × Bool)) (w : World) :
  (execOp ρ { dst, op := .store 40 x y, type := ty, pos, after, guard }).run Tryz.prog w = zhv (wrA w (ρ x) 100 && okA 100 (ρ y)) (stA w (ρ x) (ρ y)) (zbf Tryz.prog ρ { dst, op := .store 40 x y, type := ty, pos, after, guard } w) :=
 zbe Tryz.sizeOf40 ρ dst x y ty pos after guard w
@[go_sem ↓] theorem yko (ρ : Operand → Value) (dst : Option Tmp) (ty : TypeId) (pos : String) (after : Array Edge) (guard : Option (Nat × Bool)) (w : World) :
  (execOp ρ { dst, op := .alloc 40, type := ty, pos, after, guard }).run Tryz.prog w = .ok (.value (.pointer (some ⟨w.heap.size, 0, none⟩))) (w.alloc (.cells (sn zsn) 40)) := by
 unfold execOp
 simp only [Instr.alloc, Sem.run_bind, zx5, Result.andThen_ok]
 rfl
def places_sn : List (Nat × Nat) := [(0, 1), (1, 1), (2, 32), (34, 33), (67, 33)]
theorem zs7 : ∀ w : World, ((Tryz.prog.fieldsOf 40).mapM (m := Sem) fun f => do pure (f.offset, ← Go.sizeOf f.type)).run Tryz.prog w = .ok places_sn.toArray w := fun _ => by kernel_rfl
theorem zfe : Tryz.prog.underlying 40 = some (.struct (Tryz.prog.fieldsOf 40)) := by kernel_rfl
theorem zm4 : (Tryz.prog.fieldsOf 40).toList.map (fun f => (f.name, f.type, f.offset)) = [("Ver", 3, 0), ("T", 24, 1), ("Head", 34, 2), ("Just", 36, 34), ("Fin", 36, 67)] := by kernel_rfl
@[go_sem ↓] theorem ykz (ρ : Operand → Value) (dst : Option Tmp) (p : Nat × Operand) (ps : List (Nat × Operand)) (ty : TypeId) (pos : String) (after : Array Edge) (guard : Option (Nat × Bool)) (w : World) :
  (execOp ρ { dst, op := .build 40 (p :: ps).toArray, type := ty, pos, after, guard }).run Tryz.prog w = zgh ((zgp places_sn (sn zsn) ((p.1, ρ p.2) :: ps.map fun p => (p.1, ρ p.2))).map .agg) w (zbf Tryz.prog ρ { dst, op := .build 40 (p :: ps).toArray, type := ty, pos, after, guard } w) :=
 zbv zx5 zfe zs7 ρ dst (p :: ps).toArray ty pos after guard w
@[go_sem ↓] theorem yh9 (ρ : Operand → Value) (dst : Option Tmp) (ty : TypeId) (pos : String) (after : Array Edge) (guard : Option (Nat × Bool)) (w : World) :
  (execOp ρ { dst, op := .build 40 #[], type := ty, pos, after, guard }).run Tryz.prog w = .ok (.value (.agg (sn zsn))) w :=
 zbv zx5 zfe zs7 ρ dst #[] ty pos after guard w
attribute [go_sem] places_sn zcb
theorem zjp (x : Sn) : snL x = ([]) ++ ([.int .i64 x.ver] ++ ((tr x.t).toList ++ ((rc x.head).toList ++ ((cc x.just).toList ++ ((cc x.fin).toList))))) ∧ ([] : List Value).length = 0 := by
 constructor
 ·
  unfold snL; simp
 ·
  rfl
theorem z71 {w : World} {b off : Nat} {x : Sn} (h : w.rangeAt b off (snL x)) : w.cell? ⟨b, off + 0, none⟩ = some (.int .i64 x.ver) := zbj h (zjp x).1 (zjp x).2
theorem z2v {w : World} {g : Nat} {t : TypeId} {fr : Nat × Nat} {x : Sn} (h : w.heap[g]? = some (.cells (sn x) t fr)) : w.cell? ⟨g, 0, none⟩ = some (.int .i64 x.ver) := by have := z71 (x := x) (zak h); rwa [Nat.zero_add] at this
theorem z2s (x : Sn) (y : Int) : zba (sn x) 0 #[.int .i64 y] = sn { x with ver := y } := by
 rw [za6 (c := sn x) (r := #[.int .i64 y]) (zjp x).1 (zjp x).2 rfl]
 simp [sn, snL]
theorem zkl (x : Sn) : snL x = ([.int .i64 x.ver]) ++ ((tr x.t).toList ++ ((rc x.head).toList ++ ((cc x.just).toList ++ ((cc x.fin).toList)))) ∧ ([.int .i64 x.ver] : List Value).length = 1 := by
 constructor
 ·
  unfold snL; simp
 ·
  simp
theorem yg6 {w : World} {b off : Nat} {x : Sn} (h : w.rangeAt b off (snL x)) : ldA w (.pointer (some ⟨b, off + 1, none⟩)) 1 = some (tr x.t) := zb8 h (zkl x).1 (zkl x).2 (zbn _)
theorem ycs {w : World} {g : Nat} {t : TypeId} {fr : Nat × Nat} {x : Sn} (h : w.heap[g]? = some (.cells (sn x) t fr)) : ldA w (.pointer (some ⟨g, 1, none⟩)) 1 = some (tr x.t) := by have := yg6 (x := x) (zak h); rwa [Nat.zero_add] at this
theorem ycr (x : Sn) (y : Tr) : zba (sn x) 1 (tr y) = sn { x with t := y } := by
 rw [za6 (c := sn x) (zkl x).1 (zkl x).2 (by simp [zbn])]
 simp [sn, snL]
theorem zhp (x : Sn) : snL x = ([.int .i64 x.ver] ++ (tr x.t).toList) ++ ((rc x.head).toList ++ ((cc x.just).toList ++ ((cc x.fin).toList))) ∧ ([.int .i64 x.ver] ++ (tr x.t).toList : List Value).length = 2 := by
 constructor
 ·
  unfold snL; simp
 ·
  simp [zbn]
theorem z2w {w : World} {b off : Nat} {x : Sn} (h : w.rangeAt b off (snL x)) : ldA w (.pointer (some ⟨b, off + 2, none⟩)) 32 = some (rc x.head) := zb8 h (zhp x).1 (zhp x).2 (zay _)
theorem zxp {w : World} {g : Nat} {t : TypeId} {fr : Nat × Nat} {x : Sn} (h : w.heap[g]? = some (.cells (sn x) t fr)) : ldA w (.pointer (some ⟨g, 2, none⟩)) 32 = some (rc x.head) := by have := z2w (x := x) (zak h); rwa [Nat.zero_add] at this
theorem zxn (x : Sn) (y : Rt) : zba (sn x) 2 (rc y) = sn { x with head := y } := by
 rw [za6 (c := sn x) (zhp x).1 (zhp x).2 (by simp [zay])]
 simp [sn, snL]
theorem zel (x : Sn) : snL x = ([.int .i64 x.ver] ++ (tr x.t).toList ++ (rc x.head).toList) ++ ((cc x.just).toList ++ ((cc x.fin).toList)) ∧ ([.int .i64 x.ver] ++ (tr x.t).toList ++ (rc x.head).toList : List Value).length = 34 := by
 constructor
 ·
  unfold snL; simp
 ·
  simp [zay, zbn]
theorem z2x {w : World} {b off : Nat} {x : Sn} (h : w.rangeAt b off (snL x)) : ldA w (.pointer (some ⟨b, off + 34, none⟩)) 33 = some (cc x.just) := zb8 h (zel x).1 (zel x).2 (zax _)
theorem zxq {w : World} {g : Nat} {t : TypeId} {fr : Nat × Nat} {x : Sn} (h : w.heap[g]? = some (.cells (sn x) t fr)) : ldA w (.pointer (some ⟨g, 34, none⟩)) 33 = some (cc x.just) := by have := z2x (x := x) (zak h); rwa [Nat.zero_add] at this
theorem zxo (x : Sn) (y : Ck) : zba (sn x) 34 (cc y) = sn { x with just := y } := by
 rw [za6 (c := sn x) (zel x).1 (zel x).2 (by simp [zax])]
 simp [sn, snL]
theorem zft (x : Sn) : snL x = ([.int .i64 x.ver] ++ (tr x.t).toList ++ (rc x.head).toList ++ (cc x.just).toList) ++ ((cc x.fin).toList ++ ([])) ∧ ([.int .i64 x.ver] ++ (tr x.t).toList ++ (rc x.head).toList ++ (cc x.just).toList : List Value).length = 67 := by
 constructor
 ·
  unfold snL; simp
 ·
  simp [zay, zbn, zax]
theorem z7z {w : World} {b off : Nat} {x : Sn} (h : w.rangeAt b off (snL x)) : ldA w (.pointer (some ⟨b, off + 67, none⟩)) 33 = some (cc x.fin) := zb8 h (zft x).1 (zft x).2 (zax _)
theorem z2t {w : World} {g : Nat} {t : TypeId} {fr : Nat × Nat} {x : Sn} (h : w.heap[g]? = some (.cells (sn x) t fr)) : ldA w (.pointer (some ⟨g, 67, none⟩)) 33 = some (cc x.fin) := by have := z7z (x := x) (zak h); rwa [Nat.zero_add] at this
theorem z2r (x : Sn) (y : Ck) : zba (sn x) 67 (cc y) = sn { x with fin := y } := by
 rw [za6 (c := sn x) (zft x).1 (zft x).2 (by simp [zax])]
 simp [sn, snL]
theorem yg7 {w : World} {b off : Nat} {x : Sn} (h : w.rangeAt b off (snL x)) : w.rangeAt b (off + 1) (trL x.t) := by
 rw [← zgd]; exact zci h (zkl x).1 (zkl x).2
theorem z70 {w : World} {b off : Nat} {x : Sn} (h : w.rangeAt b off (snL x)) : w.cell? ⟨b, off + 1, none⟩ = some (sv x.t.n) := zsi (yg7 h)
theorem z2u {w : World} {g : Nat} {t : TypeId} {fr : Nat × Nat} {x : Sn} (h : w.heap[g]? = some (.cells (sn x) t fr)) : w.cell? ⟨g, 1, none⟩ = some (sv x.t.n) := by have := z70 (x := x) (zak h); rwa [Nat.zero_add] at this
theorem z2y {w : World} {b off : Nat} {x : Sn} (h : w.rangeAt b off (snL x)) : w.rangeAt b (off + 34) (ccL x.just) := by
 rw [← zbm]; exact zci h (zel x).1 (zel x).2
theorem zob {w : World} {b off : Nat} {x : Sn} (h : w.rangeAt b off (snL x)) : ldA w (.pointer (some ⟨b, off + 35, none⟩)) 32 = some (rc x.just.root) := zc6 (z2y h)
theorem zlj {w : World} {g : Nat} {t : TypeId} {fr : Nat × Nat} {x : Sn} (h : w.heap[g]? = some (.cells (sn x) t fr)) : ldA w (.pointer (some ⟨g, 35, none⟩)) 32 = some (rc x.just.root) := by have := zob (x := x) (zak h); rwa [Nat.zero_add] at this
theorem z72 {w : World} {b off : Nat} {x : Sn} (h : w.rangeAt b off (snL x)) : w.rangeAt b (off + 67) (ccL x.fin) := by
 rw [← zbm]; exact zci h (zft x).1 (zft x).2
theorem zo4 {w : World} {b off : Nat} {x : Sn} (h : w.rangeAt b off (snL x)) : ldA w (.pointer (some ⟨b, off + 68, none⟩)) 32 = some (rc x.fin.root) := zc6 (z72 h)
theorem zoa {w : World} {g : Nat} {t : TypeId} {fr : Nat × Nat} {x : Sn} (h : w.heap[g]? = some (.cells (sn x) t fr)) : ldA w (.pointer (some ⟨g, 68, none⟩)) 32 = some (rc x.fin.root) := by have := zo4 (x := x) (zak h); rwa [Nat.zero_add] at this
attribute [go_sem] z2s ycr zxn zxo z2r
theorem z0f : Tryz.prog.cellsOf 40 = 100 := by kernel_rfl
section
open Go.WideShapes Go.ChangeShapes
variable {H : Type} {enc : TypeId × Value → H} {w : World} {base : Nat} {sp : Nat → Bool} {held : Bool}
theorem z94 {fuel : Nat} {cs : List Value} {x : DataW H × List MemPlace} (hl : cs.length = 100) (h : DataW.trod enc Tryz.prog w base sp held fuel 40 cs = some x) : ∃ a : Sn, cs = snL a ∧ (∃ l, SlE Ene w (sv a.t.n) l) := by
 obtain ⟨_, _, h0⟩ := zav (i := 0) zfe zm4 rfl h
 rw [zfz] at h0
 obtain ⟨a0, e0⟩ := zis h0
 obtain ⟨_, _, h1⟩ := zav (i := 1) zfe zm4 rfl h
 rw [zpi] at h1
 obtain ⟨a1, e1, k1_0⟩ := zye (by rw [List.length_take, List.length_drop]; omega) h1
 rw [← zgd] at e1
 obtain ⟨_, _, h2⟩ := zav (i := 2) zfe zm4 rfl h
 rw [zcr] at h2
 obtain ⟨a2, e2⟩ := zdr h2
 obtain ⟨_, _, h3⟩ := zav (i := 3) zfe zm4 rfl h
 rw [zbw] at h3
 obtain ⟨a3, e3⟩ := ze5 (by rw [List.length_take, List.length_drop]; omega) h3
 rw [← zbm] at e3
 obtain ⟨_, _, h4⟩ := zav (i := 4) zfe zm4 rfl h
 rw [zbw] at h4
 obtain ⟨a4, e4⟩ := ze5 (by rw [List.length_take, List.length_drop]; omega) h4
 rw [← zbm] at e4
 refine ⟨⟨a0, a1, a2, a3, a4⟩, ?_, k1_0⟩
 unfold snL
 have j0 := za9 cs 0 1
 rw [e0] at j0
 have j1 := za9 cs 1 1
 rw [e1] at j1
 have j2 := za9 cs 2 32
 rw [e2] at j2
 have j3 := za9 cs 34 33
 rw [e3] at j3
 have j4 := za9 cs 67 33
 rw [e4] at j4
 have jl : cs.drop 100 = [] := List.drop_of_length_le (by omega)
 rw [show (67 + 33) = 100 from rfl, jl, List.append_nil] at j4
 rw [← List.drop_zero (l := cs)]
 rw [← j0]
 rw [show cs.drop (0 + 1) = cs.drop 1 from rfl, ← j1]
 rw [show cs.drop (1 + 1) = cs.drop 2 from rfl, ← j2]
 rw [show cs.drop (2 + 32) = cs.drop 34 from rfl, ← j3]
 rw [show cs.drop (34 + 33) = cs.drop 67 from rfl, ← j4]
 try rfl
theorem open_sn {r : Reach} {b0 : Nat} {v : Value} {d : DataW H} {ps : List MemPlace} (hval : Value.okWide Tryz.prog w r b0 40 v) (hd : DataW.Trod enc Tryz.prog w base sp held 40 v d ps) : ∃ a : Sn, v = .agg (sn a) ∧ (∃ l, SlE Ene w (sv a.t.n) l) := by
 obtain ⟨xs, rfl, hn⟩ := okWide_struct zfe hval
 rw [z0f] at hn
 obtain ⟨fuel, hf⟩ := hd
 obtain ⟨a, ha, k1_0⟩ := z94 (cs := xs.toList) (by rw [Array.length_toList, hn]) hf
 exact ⟨a, by rw [show xs = sn a from Array.toList_inj.1 ha], k1_0⟩
end
attribute [irreducible] sn
end
section
open Go.RowKit
theorem ylo (n : Nat) (a b : Int) (w : World) : (Op.equalIn (n + 1) 49 (.int .i64 a) (.int .i64 b)).run Tryz.prog w = .ok (decide (a = b)) w := by
 rw [run_equalIn_int w n 49 .i64 .i64 _ _ Tryz.underlying49]
 rfl
theorem yji (c : Array Value) (o : Nat) (n : Int) (h : c[o]? = some (.int .i64 n)) (w : World) : (part 49 c o).run Tryz.prog w = .ok (.int .i64 n) w := zlw (P := Tryz.prog) Tryz.isAgg49 c o _ h w
section
open Go.WideShapes Go.ChangeShapes
variable {H : Type} {enc : TypeId × Value → H} {w : World} {base : Nat} {sp : Nat → Bool} {held : Bool}
end
end
section
open Go.RowKit
structure Rs where
 e : Int
 r : Rt
 is : Bool
 c : Ck
theorem Rs.ext {x y : Rs} (h0 : x.e = y.e) (h1 : x.r = y.r) (h2 : x.is = y.is) (h3 : x.c = y.c) : x = y := by cases x; cases y; simp_all
instance : DecidableEq Rs := fun x y => decidable_of_iff (x.e = y.e ∧ x.r = y.r ∧ x.is = y.is ∧ x.c = y.c) ⟨fun h => Rs.ext h.1 h.2.1 h.2.2.1 h.2.2.2, fun h => by subst h; exact ⟨rfl, rfl, rfl, rfl⟩⟩
def rsL (x : Rs) : List Value := [.int .i64 x.e] ++ ((rc x.r).toList ++ ([.bool x.is] ++ ((cc x.c).toList)))
def rs (x : Rs) : Array Value := (rsL x).toArray
theorem ygs (x : Rs) : (rs x).toList = rsL x := rfl
theorem yjk (x : Rs) : (rsL x).length = 67 := by simp [rsL, zay, zax]
theorem zap (x : Rs) : (rs x).size = 67 := by rw [← Array.length_toList, ygs, yjk]
theorem yjl (x : Rs) : ∀ v ∈ rsL x, v.oneCell' = true := by
 intro v hv
 unfold rsL at hv
 simp only [List.mem_append, List.mem_singleton] at hv
 rcases hv with rfl | hv | rfl | hv
 ·
  rfl
 ·
  exact zg5 _ v hv
 ·
  rfl
 ·
  exact zfk _ v (by rw [zbm] at hv; exact hv)
@[go_sem] theorem ymz (x : Rs) : okA 67 (.agg (rs x)) = true := by
 show ((rs x).size == 67 && (rs x).all (·.oneCell')) = true
 rw [show (rs x).all (·.oneCell') = true from zdo (yjl x), zap]; rfl
def zrs : Rs := ⟨0, zr, false, zcc⟩
theorem z83 (w : World) : (zeroValue 51).run Tryz.prog w = .ok (.agg (rs zrs)) w := by kernel_rfl
@[go_sem ↓] theorem ylc (ρ : Operand → Value) (dst : Option Tmp) (x y : Operand) (ty : TypeId) (pos : String) (after : Array Edge) (guard : Option (Nat × Bool)) (w : World) :
  (execOp ρ { dst, op := .store 51 x y, type := ty, pos, after, guard }).run Tryz.prog w = zhv (wrA w (ρ x) 67 && okA 67 (ρ y)) (stA w (ρ x) (ρ y)) (zbf Tryz.prog ρ { dst, op := .store 51 x y, type := ty, pos, after, guard } w) :=
 zbe Tryz.sizeOf51 ρ dst x y ty pos after guard w
@[go_sem ↓] theorem ykm (ρ : Operand → Value) (dst : Option Tmp) (ty : TypeId) (pos : String) (after : Array Edge) (guard : Option (Nat × Bool)) (w : World) :
  (execOp ρ { dst, op := .alloc 51, type := ty, pos, after, guard }).run Tryz.prog w = .ok (.value (.pointer (some ⟨w.heap.size, 0, none⟩))) (w.alloc (.cells (rs zrs) 51)) := by
 unfold execOp
 simp only [Instr.alloc, Sem.run_bind, z83, Result.andThen_ok]
 rfl
def places_rs : List (Nat × Nat) := [(0, 1), (1, 32), (33, 1), (34, 33)]
theorem z5a : ∀ w : World, ((Tryz.prog.fieldsOf 51).mapM (m := Sem) fun f => do pure (f.offset, ← Go.sizeOf f.type)).run Tryz.prog w = .ok places_rs.toArray w := fun _ => by kernel_rfl
theorem zz2 : Tryz.prog.underlying 51 = some (.struct (Tryz.prog.fieldsOf 51)) := by kernel_rfl
theorem yfe : (Tryz.prog.fieldsOf 51).toList.map (fun f => (f.name, f.type, f.offset)) = [("E", 49, 0), ("R", 34, 1), ("Is", 4, 33), ("C", 36, 34)] := by kernel_rfl
@[go_sem ↓] theorem ykx (ρ : Operand → Value) (dst : Option Tmp) (p : Nat × Operand) (ps : List (Nat × Operand)) (ty : TypeId) (pos : String) (after : Array Edge) (guard : Option (Nat × Bool)) (w : World) :
  (execOp ρ { dst, op := .build 51 (p :: ps).toArray, type := ty, pos, after, guard }).run Tryz.prog w = zgh ((zgp places_rs (rs zrs) ((p.1, ρ p.2) :: ps.map fun p => (p.1, ρ p.2))).map .agg) w (zbf Tryz.prog ρ { dst, op := .build 51 (p :: ps).toArray, type := ty, pos, after, guard } w) :=
 zbv z83 zz2 z5a ρ dst (p :: ps).toArray ty pos after guard w
attribute [go_sem] places_rs zap
theorem zr3 (x : Rs) : rsL x = ([]) ++ ([.int .i64 x.e] ++ ((rc x.r).toList ++ ([.bool x.is] ++ ((cc x.c).toList)))) ∧ ([] : List Value).length = 0 := by
 constructor
 ·
  unfold rsL; simp
 ·
  rfl
theorem zzp (x : Rs) : (rs x)[0]? = some (.int .i64 x.e) := zgy (zr3 x).1 (zr3 x).2
theorem yci (x : Rs) (y : Int) : zba (rs x) 0 #[.int .i64 y] = rs { x with e := y } := by
 rw [za6 (c := rs x) (r := #[.int .i64 y]) (zr3 x).1 (zr3 x).2 rfl]
 simp [rs, rsL]
theorem zr4 (x : Rs) : rsL x = ([.int .i64 x.e]) ++ ((rc x.r).toList ++ ([.bool x.is] ++ ((cc x.c).toList))) ∧ ([.int .i64 x.e] : List Value).length = 1 := by
 constructor
 ·
  unfold rsL; simp
 ·
  simp
theorem zr5 (x : Rs) : (rs x).extract 1 (1 + 32) = rc x.r := zck (zr4 x).1 (zr4 x).2 (zay _)
theorem ycj (x : Rs) (y : Rt) : zba (rs x) 1 (rc y) = rs { x with r := y } := by
 rw [za6 (c := rs x) (zr4 x).1 (zr4 x).2 (by simp [zay])]
 simp [rs, rsL]
theorem zly (x : Rs) : rsL x = ([.int .i64 x.e] ++ (rc x.r).toList) ++ ([.bool x.is] ++ ((cc x.c).toList)) ∧ ([.int .i64 x.e] ++ (rc x.r).toList : List Value).length = 33 := by
 constructor
 ·
  unfold rsL; simp
 ·
  simp [zay]
theorem zup (x : Rs) : (rs x)[33]? = some (.bool x.is) := zgy (zly x).1 (zly x).2
theorem z7u (x : Rs) (y : Bool) : zba (rs x) 33 #[.bool y] = rs { x with is := y } := by
 rw [za6 (c := rs x) (r := #[.bool y]) (zly x).1 (zly x).2 rfl]
 simp [rs, rsL]
theorem zr2 (x : Rs) : rsL x = ([.int .i64 x.e] ++ (rc x.r).toList ++ [.bool x.is]) ++ ((cc x.c).toList ++ ([])) ∧ ([.int .i64 x.e] ++ (rc x.r).toList ++ [.bool x.is] : List Value).length = 34 := by
 constructor
 ·
  unfold rsL; simp
 ·
  simp [zay]
theorem zzo (x : Rs) : (rs x).extract 34 (34 + 33) = cc x.c := zck (zr2 x).1 (zr2 x).2 (zax _)
theorem ych (x : Rs) (y : Ck) : zba (rs x) 34 (cc y) = rs { x with c := y } := by
 rw [za6 (c := rs x) (zr2 x).1 (zr2 x).2 (by simp [zax])]
 simp [rs, rsL]
attribute [go_sem] yci ycj z7u ych
theorem yiu (d : Nat) (x y : Rs) (w : World) : (Op.equalIn (d + 4) 51 (.agg (rs x)) (.agg (rs y))).run Tryz.prog w = .ok (decide (x = y)) w := by
 rw [show d + 4 = (d + 3) + 1 from rfl, run_equalIn_struct w (d + 3) _ _ _ zz2 (by kernel_rfl)]
 rw [zce yfe (by decide) (yji _ _ _ (zzp x) w) (yji _ _ _ (zzp y) w) (ylo (d + 2) _ _ w)
  (fun _ h1 => zce h1 (by decide) (zny _ _ _ (zr5 x) w) (zny _ _ _ (zr5 y) w) (z42 (d + 1) _ _ w)
  (fun _ h2 => zce h2 (by decide) (ybs _ _ _ (zup x) w) (ybs _ _ _ (zup y) w) (yip (d + 2) _ _ w)
  (fun _ h3 => zce h3 (by decide) (zrw _ _ _ (zzo x) w) (zrw _ _ _ (zzo y) w) (z43 (d + 0) _ _ w)
  (fun _ hn => zmx hn))))]
 congr 1
 rw [Bool.eq_iff_iff]
 simp only [Bool.and_eq_true, decide_eq_true_iff, and_true]
 exact ⟨fun h => Rs.ext h.1 h.2.1 h.2.2.1 h.2.2.2, fun h => by subst h; exact ⟨rfl, rfl, rfl, rfl⟩⟩
@[go_sem ↓] theorem ym9 (x y : Rs) (w : World) : (Op.equalIn 10000 51 (.agg (rs x)) (.agg (rs y))).run Tryz.prog w = .ok (decide (x = y)) w := yiu 9996 x y w
section
open Go.WideShapes Go.ChangeShapes
variable {H : Type} {enc : TypeId × Value → H} {w : World} {base : Nat} {sp : Nat → Bool} {held : Bool}
end
attribute [irreducible] rs
end
end Go.Proofs.YtkalofboioffiaaGreat
