import Derived.Test.YtmihlihlpdkdcaaGreatQ04
import Derived.Test.YtmihlihlpdkdcaaGreatQ03
import Derived.Below
namespace Go.Proofs.YtmihlihlpdkdcaaGreat
open Go.RowKit
set_option maxRecDepth 200000
set_option maxHeartbeats 64000000
section
open Go.RowKit
theorem yd8 : (Tryz.prog.info? 62).map (fun i => (i.zero, i.size, i.bytes)) = some (some (.agg (aa zaa)), 100, 128) := by kernel_rfl
theorem Kaa : Known Tryz.prog Eaa 33 := ⟨Tryz.underlying33, .agg (aa zaa), 128, yd8, by show ((aa zaa)).size = _; exact zfg _, by decide⟩
@[go_sem ↓] theorem ylg (ρ : Operand → Value) (dst : Option Tmp) (x : Operand) (ty : TypeId) (pos : String) (after : Array Edge) (guard : Option (Nat × Bool)) (w : World) (hx : okA 100 (ρ x) = true) :
  (execOp ρ { dst, op := .buildSlice 33 1 #[(0, x)], type := ty, pos, after, guard }).run Tryz.prog w = .ok (.value (.slice (some ⟨w.heap.size, 0, none⟩) 1 1)) (w.alloc (.cells (zfz (ρ x)) 62)) := by
 obtain ⟨c, hc, hn⟩ : ∃ c, ρ x = .agg c ∧ c.size = 100 := by
  unfold okA at hx
  split at hx
  ·
   rename_i c hc
   rw [Bool.and_eq_true, beq_iff_eq] at hx
   exact ⟨c, hc, hx.1⟩
  ·
   cases hx
 have hp : (1 * 100 > 2 ^ 24) = False := by simp
 have h0 : (1 * 100 = 0) = False := by simp
 unfold execOp
 simp only [Instr.buildSlice, Sem.run_bind, run_underlying Tryz.underlying33, Result.andThen_ok, Tryz.sizeOf62, hp, h0, if_false, ycq, Value.cells]
 simp only [List.map_toArray, List.map_cons, List.map_nil, hc, Instr.fill, Value.cells, hn, Nat.zero_mul]
 simp [zfz]
 rw [zj6 _ c (by simp [hn])]
 rfl
section
open Go.WideShapes Go.ChangeShapes
variable {H : Type} {enc : TypeId × Value → H} {w : World} {base : Nat} {sp : Nat → Bool} {held : Bool}
theorem yk8 {fuel : Nat} {v : Value} {x : DataW H × List MemPlace} (h : DataW.trod enc Tryz.prog w base sp held fuel 33 [v] = some x) : ∃ l : List Aa, SlE Eaa w v l :=
 zmd Tryz.underlying33 zo1 (fun _ cs _ h => z54 (by obtain ⟨_, _, _, _, hl, _⟩ := DataW.trod_struct zhj h; rw [hl, zo1]) h) h
theorem ycy {fuel : Nat} {cs : List Value} {x : DataW H × List MemPlace} (h : DataW.trod enc Tryz.prog w base sp held fuel 33 cs = some x) : ∃ s : SlV, cs = [sv s] ∧ ∃ l : List Aa, SlE Eaa w (sv s) l := by
 rcases Deep.open_slice Tryz.underlying33 h with ⟨h1, _⟩ | ⟨a', len', cap', _, _, _, _, h1, _⟩
 ·
  subst h1
  exact ⟨⟨none, 0, 0⟩, rfl, [], zbt _ _ _ _⟩
 ·
  subst h1
  exact ⟨⟨some a', len', cap'⟩, rfl, yk8 h⟩
end
end
section
open Go.RowKit
theorem yfe : (Tryz.prog.info? 37).map (fun i => (i.zero, i.size, i.bytes)) = some (some (.agg (cc zcc)), 33, 40) := by kernel_rfl
theorem Kcc : Known Tryz.prog Ecc 35 := ⟨Tryz.underlying35, .agg (cc zcc), 40, yfe, by show ((cc zcc)).size = _; exact za1 _, by decide⟩
@[go_sem ↓] theorem yjh (ρ : Operand → Value) (dst : Option Tmp) (x lo : Operand) (ty : TypeId) (pos : String) (after : Array Edge) (guard : Option (Nat × Bool)) (w : World) :
  (execOp ρ { dst, op := .slice 35 x (some lo) none none, type := ty, pos, after, guard }).run Tryz.prog w = zhu (zze 33 (ρ x) (ρ lo)) w (zbe Tryz.prog ρ { dst, op := .slice 35 x (some lo) none none, type := ty, pos, after, guard } w) :=
 zqb Tryz.underlying35 Tryz.sizeOf37 ρ dst x lo ty pos after guard w
section
open Go.WideShapes Go.ChangeShapes
variable {H : Type} {enc : TypeId × Value → H} {w : World} {base : Nat} {sp : Nat → Bool} {held : Bool}
theorem yjq {fuel : Nat} {v : Value} {x : DataW H × List MemPlace} (h : DataW.trod enc Tryz.prog w base sp held fuel 35 [v] = some x) : ∃ l : List Ck, SlE Ecc w v l :=
 zmd Tryz.underlying35 zc5 (fun _ cs _ h => zkt (by obtain ⟨_, _, _, _, hl, _⟩ := DataW.trod_struct zir h; rw [hl, zc5]) h) h
theorem ydq {fuel : Nat} {cs : List Value} {x : DataW H × List MemPlace} (h : DataW.trod enc Tryz.prog w base sp held fuel 35 cs = some x) : ∃ s : SlV, cs = [sv s] ∧ ∃ l : List Ck, SlE Ecc w (sv s) l := by
 rcases Deep.open_slice Tryz.underlying35 h with ⟨h1, _⟩ | ⟨a', len', cap', _, _, _, _, h1, _⟩
 ·
  subst h1
  exact ⟨⟨none, 0, 0⟩, rfl, [], zbt _ _ _ _⟩
 ·
  subst h1
  exact ⟨⟨some a', len', cap'⟩, rfl, yjq h⟩
end
end
theorem zym {a b : UInt64} (h : ∀ i, a.toNat.testBit i = b.toNat.testBit i) : a = b := UInt64.toNat_inj.1 (Nat.eq_of_testBit_eq h)
theorem yr9 (a b : UInt64) (i : Nat) : (a &&& b).toNat.testBit i = (a.toNat.testBit i && b.toNat.testBit i) := by rw [UInt64.toNat_and, Nat.testBit_and]
theorem z7k (a b : UInt64) (i : Nat) : (a ||| b).toNat.testBit i = (a.toNat.testBit i || b.toNat.testBit i) := by rw [UInt64.toNat_or, Nat.testBit_or]
structure Lk where
 s : Ck
 t : Ck
 mask : UInt64
theorem Lk.ext {x y : Lk} (h0 : x.s = y.s) (h1 : x.t = y.t) (h2 : x.mask = y.mask) : x = y := by cases x; cases y; simp_all
instance : DecidableEq Lk := fun x y => decidable_of_iff (x.s = y.s ∧ x.t = y.t ∧ x.mask = y.mask) ⟨fun h => Lk.ext h.1 h.2.1 h.2.2, fun h => by subst h; exact ⟨rfl, rfl, rfl⟩⟩
def oneB (a b : Lk) : Bool := decide (a.s = b.s ∧ a.t = b.t)
def lkAt (ls : List Lk) (i : Nat) : Lk := ls.getD i ⟨zcc, zcc, 0⟩
section
variable {ls : List Lk}
end
section
open Go.RowKit
def lkL (x : Lk) : List Value := (cc x.s).toList ++ ((cc x.t).toList ++ ([num x.mask]))
def lk (x : Lk) : Array Value := (lkL x).toArray
theorem zse (x : Lk) : (lk x).toList = lkL x := rfl
theorem yoo (x : Lk) : (lkL x).length = 67 := by simp [lkL, za1]
theorem zio (x : Lk) : (lk x).size = 67 := by rw [← Array.length_toList, zse, yoo]
theorem yo3 (x : Lk) : ∀ v ∈ lkL x, v.oneCell' = true := by
 intro v hv
 unfold lkL at hv
 simp only [List.mem_append, List.mem_singleton] at hv
 rcases hv with hv | hv | rfl
 ·
  exact zm9 _ v (by rw [zb3] at hv; exact hv)
 ·
  exact zm9 _ v (by rw [zb3] at hv; exact hv)
 ·
  rfl
@[go_sem] theorem yyz (x : Lk) : okA 67 (.agg (lk x)) = true := by
 show ((lk x).size == 67 && (lk x).all (·.oneCell')) = true
 rw [show (lk x).all (·.oneCell') = true from zf1 (yo3 x), zio]; rfl
def zlk : Lk := ⟨zcc, zcc, 0⟩
theorem zzc (w : World) : (zeroValue 110).run Tryz.prog w = .ok (.agg (lk zlk)) w := by kernel_rfl
@[go_sem ↓] theorem yyl (ρ : Operand → Value) (dst : Option Tmp) (x : Operand) (ty : TypeId) (pos : String) (after : Array Edge) (guard : Option (Nat × Bool)) (w : World) :
  (execOp ρ { dst, op := .load 110 x, type := ty, pos, after, guard }).run Tryz.prog w = zje (ldA w (ρ x) 67) w (zbe Tryz.prog ρ { dst, op := .load 110 x, type := ty, pos, after, guard } w) :=
 zbp Tryz.isAgg110 Tryz.sizeOf110 ρ dst x ty pos after guard w
@[go_sem ↓] theorem ywr (ρ : Operand → Value) (dst : Option Tmp) (x y : Operand) (ty : TypeId) (pos : String) (after : Array Edge) (guard : Option (Nat × Bool)) (w : World) :
  (execOp ρ { dst, op := .store 110 x y, type := ty, pos, after, guard }).run Tryz.prog w = zjf (wrA w (ρ x) 67 && okA 67 (ρ y)) (stA w (ρ x) (ρ y)) (zbe Tryz.prog ρ { dst, op := .store 110 x y, type := ty, pos, after, guard } w) :=
 zbh Tryz.sizeOf110 ρ dst x y ty pos after guard w
@[go_sem ↓] theorem yw5 (ρ : Operand → Value) (dst : Option Tmp) (ty : TypeId) (pos : String) (after : Array Edge) (guard : Option (Nat × Bool)) (w : World) :
  (execOp ρ { dst, op := .alloc 110, type := ty, pos, after, guard }).run Tryz.prog w = .ok (.value (.pointer (some ⟨w.heap.size, 0, none⟩))) (w.alloc (.cells (lk zlk) 110)) := by
 unfold execOp
 simp only [Instr.alloc, Sem.run_bind, zzc, Result.andThen_ok]
 rfl
def places_lk : List (Nat × Nat) := [(0, 33), (33, 33), (66, 1)]
theorem yh5 : ∀ w : World, ((Tryz.prog.fieldsOf 110).mapM (m := Sem) fun f => do pure (f.offset, ← Go.sizeOf f.type)).run Tryz.prog w = .ok places_lk.toArray w := fun _ => by kernel_rfl
theorem zki : Tryz.prog.underlying 110 = some (.struct (Tryz.prog.fieldsOf 110)) := by kernel_rfl
theorem zxh : (Tryz.prog.fieldsOf 110).toList.map (fun f => (f.name, f.type, f.offset)) = [("S", 37, 0), ("T", 37, 33), ("Mask", 30, 66)] := by kernel_rfl
@[go_sem ↓] theorem yw8 (ρ : Operand → Value) (dst : Option Tmp) (p : Nat × Operand) (ps : List (Nat × Operand)) (ty : TypeId) (pos : String) (after : Array Edge) (guard : Option (Nat × Bool)) (w : World) :
  (execOp ρ { dst, op := .build 110 (p :: ps).toArray, type := ty, pos, after, guard }).run Tryz.prog w = zhu ((zi1 places_lk (lk zlk) ((p.1, ρ p.2) :: ps.map fun p => (p.1, ρ p.2))).map .agg) w (zbe Tryz.prog ρ { dst, op := .build 110 (p :: ps).toArray, type := ty, pos, after, guard } w) :=
 zcb zzc zki yh5 ρ dst (p :: ps).toArray ty pos after guard w
attribute [go_sem] places_lk zio
theorem zj7 (x : Lk) : lkL x = ([]) ++ ((cc x.s).toList ++ ((cc x.t).toList ++ ([num x.mask]))) ∧ ([] : List Value).length = 0 := by
 constructor
 ·
  unfold lkL; simp
 ·
  rfl
theorem z63 (x : Lk) : (lk x).extract 0 (0 + 33) = cc x.s := zcx (zj7 x).1 (zj7 x).2 (za1 _)
theorem ypo {w : World} {b off : Nat} {x : Lk} (h : w.rangeAt b off (lkL x)) : ldA w (.pointer (some ⟨b, off + 0, none⟩)) 33 = some (cc x.s) := zc3 h (zj7 x).1 (zj7 x).2 (za1 _)
theorem ynq {w : World} {g : Nat} {t : TypeId} {fr : Nat × Nat} {x : Lk} (h : w.heap[g]? = some (.cells (lk x) t fr)) : ldA w (.pointer (some ⟨g, 0, none⟩)) 33 = some (cc x.s) := by have := ypo (x := x) (zai h); rwa [Nat.zero_add] at this
theorem yj6 (x : Lk) (y : Ck) : zax (lk x) 0 (cc y) = lk { x with s := y } := by
 rw [za0 (c := lk x) (zj7 x).1 (zj7 x).2 (by simp [za1])]
 simp [lk, lkL]
theorem zjv (x : Lk) : lkL x = ((cc x.s).toList) ++ ((cc x.t).toList ++ ([num x.mask])) ∧ ((cc x.s).toList : List Value).length = 33 := by
 constructor
 ·
  unfold lkL; simp
 ·
  simp [za1]
theorem z7b (x : Lk) : (lk x).extract 33 (33 + 33) = cc x.t := zcx (zjv x).1 (zjv x).2 (za1 _)
theorem yqu {w : World} {b off : Nat} {x : Lk} (h : w.rangeAt b off (lkL x)) : ldA w (.pointer (some ⟨b, off + 33, none⟩)) 33 = some (cc x.t) := zc3 h (zjv x).1 (zjv x).2 (za1 _)
theorem yl4 {w : World} {g : Nat} {t : TypeId} {fr : Nat × Nat} {x : Lk} (h : w.heap[g]? = some (.cells (lk x) t fr)) : ldA w (.pointer (some ⟨g, 33, none⟩)) 33 = some (cc x.t) := by have := yqu (x := x) (zai h); rwa [Nat.zero_add] at this
theorem yls (x : Lk) (y : Ck) : zax (lk x) 33 (cc y) = lk { x with t := y } := by
 rw [za0 (c := lk x) (zjv x).1 (zjv x).2 (by simp [za1])]
 simp [lk, lkL]
theorem zgq (x : Lk) : lkL x = ((cc x.s).toList ++ (cc x.t).toList) ++ ([num x.mask] ++ ([])) ∧ ((cc x.s).toList ++ (cc x.t).toList : List Value).length = 66 := by
 constructor
 ·
  unfold lkL; simp
 ·
  simp [za1]
theorem zs5 (x : Lk) : (lk x)[66]? = some (num x.mask) := zh9 (zgq x).1 (zgq x).2
theorem zvf {w : World} {b off : Nat} {x : Lk} (h : w.rangeAt b off (lkL x)) : w.cell? ⟨b, off + 66, none⟩ = some (num x.mask) := zbj h (zgq x).1 (zgq x).2
theorem z4e {w : World} {g : Nat} {t : TypeId} {fr : Nat × Nat} {x : Lk} (h : w.heap[g]? = some (.cells (lk x) t fr)) : w.cell? ⟨g, 66, none⟩ = some (num x.mask) := by have := zvf (x := x) (zai h); rwa [Nat.zero_add] at this
theorem zri (x : Lk) (y : UInt64) : zax (lk x) 66 #[num y] = lk { x with mask := y } := by
 rw [za0 (c := lk x) (r := #[num y]) (zgq x).1 (zgq x).2 rfl]
 simp [lk, lkL]
theorem yf9 {w : World} {b off : Nat} {x : Lk} (h : w.rangeAt b off (lkL x)) : w.rangeAt b (off + 0) (ccL x.s) := by
 rw [← zb3]; exact zdk h (zj7 x).1 (zj7 x).2
theorem zzf {w : World} {b off : Nat} {x : Lk} (h : w.rangeAt b off (lkL x)) : w.cell? ⟨b, off + 0, none⟩ = some (num x.s.epoch) := zfe (yf9 h)
theorem zus {w : World} {g : Nat} {t : TypeId} {fr : Nat × Nat} {x : Lk} (h : w.heap[g]? = some (.cells (lk x) t fr)) : w.cell? ⟨g, 0, none⟩ = some (num x.s.epoch) := by have := zzf (x := x) (zai h); rwa [Nat.zero_add] at this
theorem zzg {w : World} {b off : Nat} {x : Lk} (h : w.rangeAt b off (lkL x)) : ldA w (.pointer (some ⟨b, off + 1, none⟩)) 32 = some (rc x.s.root) := zgn (yf9 h)
theorem zni {w : World} {g : Nat} {t : TypeId} {fr : Nat × Nat} {x : Lk} (h : w.heap[g]? = some (.cells (lk x) t fr)) : ldA w (.pointer (some ⟨g, 1, none⟩)) 32 = some (rc x.s.root) := by have := zzg (x := x) (zai h); rwa [Nat.zero_add] at this
theorem ygw {w : World} {b off : Nat} {x : Lk} (h : w.rangeAt b off (lkL x)) : w.rangeAt b (off + 33) (ccL x.t) := by
 rw [← zb3]; exact zdk h (zjv x).1 (zjv x).2
theorem zyo {w : World} {b off : Nat} {x : Lk} (h : w.rangeAt b off (lkL x)) : w.cell? ⟨b, off + 33, none⟩ = some (num x.t.epoch) := zfe (ygw h)
theorem zle {w : World} {g : Nat} {t : TypeId} {fr : Nat × Nat} {x : Lk} (h : w.heap[g]? = some (.cells (lk x) t fr)) : w.cell? ⟨g, 33, none⟩ = some (num x.t.epoch) := by have := zyo (x := x) (zai h); rwa [Nat.zero_add] at this
theorem z1r {w : World} {b off : Nat} {x : Lk} (h : w.rangeAt b off (lkL x)) : ldA w (.pointer (some ⟨b, off + 34, none⟩)) 32 = some (rc x.t.root) := zgn (ygw h)
theorem zmx {w : World} {g : Nat} {t : TypeId} {fr : Nat × Nat} {x : Lk} (h : w.heap[g]? = some (.cells (lk x) t fr)) : ldA w (.pointer (some ⟨g, 34, none⟩)) 32 = some (rc x.t.root) := by have := z1r (x := x) (zai h); rwa [Nat.zero_add] at this
attribute [go_sem] yj6 yls zri
@[go_sem] theorem yo4 (x : Lk) (y : UInt64) : zax (lk x) 66 #[.int .u64 (y.toNat : Int)] = lk { x with mask := y } := zri x y
theorem ytw (d : Nat) (x y : Lk) (w : World) : (Op.equalIn (d + 4) 110 (.agg (lk x)) (.agg (lk y))).run Tryz.prog w = .ok (decide (x = y)) w := by
 rw [show d + 4 = (d + 3) + 1 from rfl, run_equalIn_struct w (d + 3) _ _ _ zki (by kernel_rfl)]
 rw [zcq zxh (by decide) (zjw _ _ _ (z63 x) w) (zjw _ _ _ (z63 y) w) (z0w (d + 0) _ _ w)
  (fun _ h1 => zcq h1 (by decide) (zjw _ _ _ (z7b x) w) (zjw _ _ _ (z7b y) w) (z0w (d + 0) _ _ w)
  (fun _ h2 => zcq h2 (by decide) (zqm _ _ _ (zs5 x) w) (zqm _ _ _ (zs5 y) w) (ya9 (d + 2) _ _ w)
  (fun _ hn => zuc hn)))]
 congr 1
 rw [Bool.eq_iff_iff]
 simp only [Bool.and_eq_true, decide_eq_true_iff, and_true]
 exact ⟨fun h => Lk.ext h.1 h.2.1 h.2.2, fun h => by subst h; exact ⟨rfl, rfl, rfl⟩⟩
@[go_sem ↓] theorem yzc (x y : Lk) (w : World) : (Op.equalIn 10000 110 (.agg (lk x)) (.agg (lk y))).run Tryz.prog w = .ok (decide (x = y)) w := ytw 9996 x y w
theorem zu6 : Tryz.prog.cellsOf 110 = 67 := by kernel_rfl
section
open Go.WideShapes Go.ChangeShapes
variable {H : Type} {enc : TypeId × Value → H} {w : World} {base : Nat} {sp : Nat → Bool} {held : Bool}
theorem yiw {fuel : Nat} {cs : List Value} {x : DataW H × List MemPlace} (hl : cs.length = 67) (h : DataW.trod enc Tryz.prog w base sp held fuel 110 cs = some x) : ∃ a : Lk, cs = lkL a := by
 obtain ⟨_, _, h0⟩ := zaw (i := 0) zki zxh rfl h
 rw [zc5] at h0
 obtain ⟨a0, e0⟩ := zkt (by rw [List.length_take, List.length_drop]; omega) h0
 rw [← zb3] at e0
 obtain ⟨_, _, h1⟩ := zaw (i := 1) zki zxh rfl h
 rw [zc5] at h1
 obtain ⟨a1, e1⟩ := zkt (by rw [List.length_take, List.length_drop]; omega) h1
 rw [← zb3] at e1
 obtain ⟨_, _, h2⟩ := zaw (i := 2) zki zxh rfl h
 rw [zb9] at h2
 obtain ⟨a2, e2⟩ := zdh h2
 refine ⟨⟨a0, a1, a2⟩, ?_⟩
 unfold lkL
 have j0 := zbc cs 0 33
 rw [e0] at j0
 have j1 := zbc cs 33 33
 rw [e1] at j1
 have j2 := zbc cs 66 1
 rw [e2] at j2
 have jl : cs.drop 67 = [] := List.drop_of_length_le (by omega)
 rw [show (66 + 1) = 67 from rfl, jl, List.append_nil] at j2
 rw [← List.drop_zero (l := cs)]
 rw [← j0]
 rw [show cs.drop (0 + 33) = cs.drop 33 from rfl, ← j1]
 rw [show cs.drop (33 + 33) = cs.drop 66 from rfl, ← j2]
 try rfl
end
def Elk : Lie Lk := ⟨110, 67, lkL, by decide, yoo, yo3⟩
attribute [irreducible] lk
end
section
open Go.RowKit
theorem z41 : (Tryz.prog.info? 110).map (fun i => (i.zero, i.size, i.bytes)) = some (some (.agg (lk zlk)), 67, 88) := by kernel_rfl
theorem Klk : Known Tryz.prog Elk 34 := ⟨Tryz.underlying34, .agg (lk zlk), 88, z41, by show ((lk zlk)).size = _; exact zio _, by decide⟩
@[go_sem ↓] theorem yng (ρ : Operand → Value) (dst : Option Tmp) (x lo : Operand) (ty : TypeId) (pos : String) (after : Array Edge) (guard : Option (Nat × Bool)) (w : World) :
  (execOp ρ { dst, op := .slice 34 x (some lo) none none, type := ty, pos, after, guard }).run Tryz.prog w = zhu (zze 67 (ρ x) (ρ lo)) w (zbe Tryz.prog ρ { dst, op := .slice 34 x (some lo) none none, type := ty, pos, after, guard } w) :=
 zqb Tryz.underlying34 Tryz.sizeOf110 ρ dst x lo ty pos after guard w
@[go_sem ↓] theorem ykb (ρ : Operand → Value) (dst : Option Tmp) (x : Operand) (ty : TypeId) (pos : String) (after : Array Edge) (guard : Option (Nat × Bool)) (w : World) (hx : okA 67 (ρ x) = true) :
  (execOp ρ { dst, op := .buildSlice 34 1 #[(0, x)], type := ty, pos, after, guard }).run Tryz.prog w = .ok (.value (.slice (some ⟨w.heap.size, 0, none⟩) 1 1)) (w.alloc (.cells (zfz (ρ x)) 110)) := by
 obtain ⟨c, hc, hn⟩ : ∃ c, ρ x = .agg c ∧ c.size = 67 := by
  unfold okA at hx
  split at hx
  ·
   rename_i c hc
   rw [Bool.and_eq_true, beq_iff_eq] at hx
   exact ⟨c, hc, hx.1⟩
  ·
   cases hx
 have hp : (1 * 67 > 2 ^ 24) = False := by simp
 have h0 : (1 * 67 = 0) = False := by simp
 unfold execOp
 simp only [Instr.buildSlice, Sem.run_bind, run_underlying Tryz.underlying34, Result.andThen_ok, Tryz.sizeOf110, hp, h0, if_false, zzc, Value.cells]
 simp only [List.map_toArray, List.map_cons, List.map_nil, hc, Instr.fill, Value.cells, hn, Nat.zero_mul]
 simp [zfz]
 rw [zj6 _ c (by simp [hn])]
 rfl
section
open Go.WideShapes Go.ChangeShapes
variable {H : Type} {enc : TypeId × Value → H} {w : World} {base : Nat} {sp : Nat → Bool} {held : Bool}
theorem yj2 {fuel : Nat} {v : Value} {x : DataW H × List MemPlace} (h : DataW.trod enc Tryz.prog w base sp held fuel 34 [v] = some x) : ∃ l : List Lk, SlE Elk w v l :=
 zmd Tryz.underlying34 zu6 (fun _ cs _ h => yiw (by obtain ⟨_, _, _, _, hl, _⟩ := DataW.trod_struct zki h; rw [hl, zu6]) h) h
theorem ydd {fuel : Nat} {cs : List Value} {x : DataW H × List MemPlace} (h : DataW.trod enc Tryz.prog w base sp held fuel 34 cs = some x) : ∃ s : SlV, cs = [sv s] ∧ ∃ l : List Lk, SlE Elk w (sv s) l := by
 rcases Deep.open_slice Tryz.underlying34 h with ⟨h1, _⟩ | ⟨a', len', cap', _, _, _, _, h1, _⟩
 ·
  subst h1
  exact ⟨⟨none, 0, 0⟩, rfl, [], zbt _ _ _ _⟩
 ·
  subst h1
  exact ⟨⟨some a', len', cap'⟩, rfl, yj2 h⟩
end
end
section
open Go.RowKit
theorem zyb : (Tryz.prog.info? 30).map (fun i => (i.zero, i.size, i.bytes)) = some (some (num 0), 1, 8) := by kernel_rfl
theorem Knum : Known Tryz.prog Enum 24 := ⟨Tryz.underlying24, num 0, 8, zyb, rfl, by decide⟩
section
open Go.WideShapes Go.ChangeShapes
variable {H : Type} {enc : TypeId × Value → H} {w : World} {base : Nat} {sp : Nat → Bool} {held : Bool}
theorem yey {fuel : Nat} {v : Value} {x : DataW H × List MemPlace} (h : DataW.trod enc Tryz.prog w base sp held fuel 24 [v] = some x) : ∃ l : List UInt64, SlE Enum w v l :=
 zmd Tryz.underlying24 zb9 (fun _ _ _ h => zdh h) h
theorem zv7 {fuel : Nat} {cs : List Value} {x : DataW H × List MemPlace} (h : DataW.trod enc Tryz.prog w base sp held fuel 24 cs = some x) : ∃ s : SlV, cs = [sv s] ∧ ∃ l : List UInt64, SlE Enum w (sv s) l := by
 rcases Deep.open_slice Tryz.underlying24 h with ⟨h1, _⟩ | ⟨a', len', cap', _, _, _, _, h1, _⟩
 ·
  subst h1
  exact ⟨⟨none, 0, 0⟩, rfl, [], zbt _ _ _ _⟩
 ·
  subst h1
  exact ⟨⟨some a', len', cap'⟩, rfl, yey h⟩
end
end
section
open Go.RowKit
structure En where
 t : Tr
 bal : SlV
 v : Vo
 w : SlV
 late : SlV
 k : SlV
 j : SlV
 fin : Ck
 now : UInt64
def enL (x : En) : List Value := (tr x.t).toList ++ ([sv x.bal] ++ ((vo x.v).toList ++ ([sv x.w] ++ ([sv x.late] ++ ([sv x.k] ++ ([sv x.j] ++ ((cc x.fin).toList ++ ([num x.now]))))))))
def en (x : En) : Array Value := (enL x).toArray
theorem z3h (x : En) : (en x).toList = enL x := rfl
theorem yu4 (x : En) : (enL x).length = 42 := by simp [enL, zbf, zaz, za1]
theorem zas (x : En) : (en x).size = 42 := by rw [← Array.length_toList, z3h, yu4]
theorem yvs (x : En) : ∀ v ∈ enL x, v.oneCell' = true := by
 intro v hv
 unfold enL at hv
 simp only [List.mem_append, List.mem_singleton] at hv
 rcases hv with hv | rfl | hv | rfl | rfl | rfl | rfl | hv | rfl
 ·
  exact yhh _ v (by rw [zmf] at hv; exact hv)
 ·
  rfl
 ·
  exact ynr _ v (by rw [zsk] at hv; exact hv)
 ·
  rfl
 ·
  rfl
 ·
  rfl
 ·
  rfl
 ·
  exact zm9 _ v (by rw [zb3] at hv; exact hv)
 ·
  rfl
@[go_sem] theorem yy2 (x : En) : okA 42 (.agg (en x)) = true := by
 show ((en x).size == 42 && (en x).all (·.oneCell')) = true
 rw [show (en x).all (·.oneCell') = true from zf1 (yvs x), zas]; rfl
def zen : En := ⟨ztr, ⟨none, 0, 0⟩, zvo, ⟨none, 0, 0⟩, ⟨none, 0, 0⟩, ⟨none, 0, 0⟩, ⟨none, 0, 0⟩, zcc, 0⟩
theorem z3b (w : World) : (zeroValue 39).run Tryz.prog w = .ok (.agg (en zen)) w := by kernel_rfl
@[go_sem ↓] theorem yye (ρ : Operand → Value) (dst : Option Tmp) (x : Operand) (ty : TypeId) (pos : String) (after : Array Edge) (guard : Option (Nat × Bool)) (w : World) :
  (execOp ρ { dst, op := .load 39 x, type := ty, pos, after, guard }).run Tryz.prog w = zje (ldA w (ρ x) 42) w (zbe Tryz.prog ρ { dst, op := .load 39 x, type := ty, pos, after, guard } w) :=
 zbp Tryz.isAgg39 Tryz.sizeOf39 ρ dst x ty pos after guard w
@[go_sem ↓] theorem ywn (ρ : Operand → Value) (dst : Option Tmp) (x y : Operand) (ty : TypeId) (pos : String) (after : Array Edge) (guard : Option (Nat × Bool)) (w : World) :
  (execOp ρ { dst, op := .store 39 x y, type := ty, pos, after, guard }).run Tryz.prog w = zjf (wrA w (ρ x) 42 && okA 42 (ρ y)) (stA w (ρ x) (ρ y)) (zbe Tryz.prog ρ { dst, op := .store 39 x y, type := ty, pos, after, guard } w) :=
 zbh Tryz.sizeOf39 ρ dst x y ty pos after guard w
@[go_sem ↓] theorem yxg (ρ : Operand → Value) (dst : Option Tmp) (ty : TypeId) (pos : String) (after : Array Edge) (guard : Option (Nat × Bool)) (w : World) :
  (execOp ρ { dst, op := .alloc 39, type := ty, pos, after, guard }).run Tryz.prog w = .ok (.value (.pointer (some ⟨w.heap.size, 0, none⟩))) (w.alloc (.cells (en zen) 39)) := by
 unfold execOp
 simp only [Instr.alloc, Sem.run_bind, z3b, Result.andThen_ok]
 rfl
def places_en : List (Nat × Nat) := [(0, 1), (1, 1), (2, 2), (4, 1), (5, 1), (6, 1), (7, 1), (8, 33), (41, 1)]
theorem zzs : ∀ w : World, ((Tryz.prog.fieldsOf 39).mapM (m := Sem) fun f => do pure (f.offset, ← Go.sizeOf f.type)).run Tryz.prog w = .ok places_en.toArray w := fun _ => by kernel_rfl
theorem zd8 : Tryz.prog.underlying 39 = some (.struct (Tryz.prog.fieldsOf 39)) := by kernel_rfl
theorem zij : (Tryz.prog.fieldsOf 39).toList.map (fun f => (f.name, f.type, f.offset)) = [("T", 28, 0), ("Bal", 24, 1), ("V", 32, 2), ("W", 24, 4), ("Late", 33, 5), ("K", 34, 6), ("J", 35, 7), ("Fin", 37, 8), ("Now", 30, 41)] := by kernel_rfl
@[go_sem ↓] theorem yw1 (ρ : Operand → Value) (dst : Option Tmp) (p : Nat × Operand) (ps : List (Nat × Operand)) (ty : TypeId) (pos : String) (after : Array Edge) (guard : Option (Nat × Bool)) (w : World) :
  (execOp ρ { dst, op := .build 39 (p :: ps).toArray, type := ty, pos, after, guard }).run Tryz.prog w = zhu ((zi1 places_en (en zen) ((p.1, ρ p.2) :: ps.map fun p => (p.1, ρ p.2))).map .agg) w (zbe Tryz.prog ρ { dst, op := .build 39 (p :: ps).toArray, type := ty, pos, after, guard } w) :=
 zcb z3b zd8 zzs ρ dst (p :: ps).toArray ty pos after guard w
@[go_sem ↓] theorem yty (ρ : Operand → Value) (dst : Option Tmp) (ty : TypeId) (pos : String) (after : Array Edge) (guard : Option (Nat × Bool)) (w : World) :
  (execOp ρ { dst, op := .build 39 #[], type := ty, pos, after, guard }).run Tryz.prog w = .ok (.value (.agg (en zen))) w :=
 zcb z3b zd8 zzs ρ dst #[] ty pos after guard w
attribute [go_sem] places_en zas
theorem zj3 (x : En) : enL x = ([]) ++ ((tr x.t).toList ++ ([sv x.bal] ++ ((vo x.v).toList ++ ([sv x.w] ++ ([sv x.late] ++ ([sv x.k] ++ ([sv x.j] ++ ((cc x.fin).toList ++ ([num x.now]))))))))) ∧ ([] : List Value).length = 0 := by
 constructor
 ·
  unfold enL; simp
 ·
  rfl
theorem yps {w : World} {b off : Nat} {x : En} (h : w.rangeAt b off (enL x)) : ldA w (.pointer (some ⟨b, off + 0, none⟩)) 1 = some (tr x.t) := zc3 h (zj3 x).1 (zj3 x).2 (zbf _)
theorem yky {w : World} {g : Nat} {t : TypeId} {fr : Nat × Nat} {x : En} (h : w.heap[g]? = some (.cells (en x) t fr)) : ldA w (.pointer (some ⟨g, 0, none⟩)) 1 = some (tr x.t) := by have := yps (x := x) (zai h); rwa [Nat.zero_add] at this
theorem zws (x : En) (y : Tr) : zax (en x) 0 (tr y) = en { x with t := y } := by
 rw [za0 (c := en x) (zj3 x).1 (zj3 x).2 (by simp [zbf])]
 simp [en, enL]
theorem zn7 (x : En) : enL x = ((tr x.t).toList) ++ ([sv x.bal] ++ ((vo x.v).toList ++ ([sv x.w] ++ ([sv x.late] ++ ([sv x.k] ++ ([sv x.j] ++ ((cc x.fin).toList ++ ([num x.now])))))))) ∧ ((tr x.t).toList : List Value).length = 1 := by
 constructor
 ·
  unfold enL; simp
 ·
  simp [zbf]
theorem ye5 {w : World} {b off : Nat} {x : En} (h : w.rangeAt b off (enL x)) : w.cell? ⟨b, off + 1, none⟩ = some (sv x.bal) := zbj h (zn7 x).1 (zn7 x).2
theorem zou {w : World} {g : Nat} {t : TypeId} {fr : Nat × Nat} {x : En} (h : w.heap[g]? = some (.cells (en x) t fr)) : w.cell? ⟨g, 1, none⟩ = some (sv x.bal) := by have := ye5 (x := x) (zai h); rwa [Nat.zero_add] at this
theorem zoq (x : En) (y : SlV) : zax (en x) 1 #[sv y] = en { x with bal := y } := by
 rw [za0 (c := en x) (r := #[sv y]) (zn7 x).1 (zn7 x).2 rfl]
 simp [en, enL]
theorem zj0 (x : En) : enL x = ((tr x.t).toList ++ [sv x.bal]) ++ ((vo x.v).toList ++ ([sv x.w] ++ ([sv x.late] ++ ([sv x.k] ++ ([sv x.j] ++ ((cc x.fin).toList ++ ([num x.now]))))))) ∧ ((tr x.t).toList ++ [sv x.bal] : List Value).length = 2 := by
 constructor
 ·
  unfold enL; simp
 ·
  simp [zbf]
theorem yr4 {w : World} {b off : Nat} {x : En} (h : w.rangeAt b off (enL x)) : ldA w (.pointer (some ⟨b, off + 2, none⟩)) 2 = some (vo x.v) := zc3 h (zj0 x).1 (zj0 x).2 (zaz _)
theorem ym6 {w : World} {g : Nat} {t : TypeId} {fr : Nat × Nat} {x : En} (h : w.heap[g]? = some (.cells (en x) t fr)) : ldA w (.pointer (some ⟨g, 2, none⟩)) 2 = some (vo x.v) := by have := yr4 (x := x) (zai h); rwa [Nat.zero_add] at this
theorem zxa (x : En) (y : Vo) : zax (en x) 2 (vo y) = en { x with v := y } := by
 rw [za0 (c := en x) (zj0 x).1 (zj0 x).2 (by simp [zaz])]
 simp [en, enL]
theorem zxk (x : En) : enL x = ((tr x.t).toList ++ [sv x.bal] ++ (vo x.v).toList) ++ ([sv x.w] ++ ([sv x.late] ++ ([sv x.k] ++ ([sv x.j] ++ ((cc x.fin).toList ++ ([num x.now])))))) ∧ ((tr x.t).toList ++ [sv x.bal] ++ (vo x.v).toList : List Value).length = 4 := by
 constructor
 ·
  unfold enL; simp
 ·
  simp [zbf, zaz]
theorem yqk {w : World} {b off : Nat} {x : En} (h : w.rangeAt b off (enL x)) : w.cell? ⟨b, off + 4, none⟩ = some (sv x.w) := zbj h (zxk x).1 (zxk x).2
theorem zq1 {w : World} {g : Nat} {t : TypeId} {fr : Nat × Nat} {x : En} (h : w.heap[g]? = some (.cells (en x) t fr)) : w.cell? ⟨g, 4, none⟩ = some (sv x.w) := by have := yqk (x := x) (zai h); rwa [Nat.zero_add] at this
theorem zxe (x : En) (y : SlV) : zax (en x) 4 #[sv y] = en { x with w := y } := by
 rw [za0 (c := en x) (r := #[sv y]) (zxk x).1 (zxk x).2 rfl]
 simp [en, enL]
theorem zgt (x : En) : enL x = ((tr x.t).toList ++ [sv x.bal] ++ (vo x.v).toList ++ [sv x.w]) ++ ([sv x.late] ++ ([sv x.k] ++ ([sv x.j] ++ ((cc x.fin).toList ++ ([num x.now]))))) ∧ ((tr x.t).toList ++ [sv x.bal] ++ (vo x.v).toList ++ [sv x.w] : List Value).length = 5 := by
 constructor
 ·
  unfold enL; simp
 ·
  simp [zbf, zaz]
theorem z39 (x : En) : (en x)[5]? = some (sv x.late) := zh9 (zgt x).1 (zgt x).2
@[go_sem] theorem yte (x : En) (h : 5 < (en x).size) : (en x)[5]'h = sv x.late := by have := z39 x; rw [Array.getElem?_eq_getElem h] at this; exact Option.some.inj this
theorem yb0 {w : World} {b off : Nat} {x : En} (h : w.rangeAt b off (enL x)) : w.cell? ⟨b, off + 5, none⟩ = some (sv x.late) := zbj h (zgt x).1 (zgt x).2
theorem zmc {w : World} {g : Nat} {t : TypeId} {fr : Nat × Nat} {x : En} (h : w.heap[g]? = some (.cells (en x) t fr)) : w.cell? ⟨g, 5, none⟩ = some (sv x.late) := by have := yb0 (x := x) (zai h); rwa [Nat.zero_add] at this
theorem zlq (x : En) (y : SlV) : zax (en x) 5 #[sv y] = en { x with late := y } := by
 rw [za0 (c := en x) (r := #[sv y]) (zgt x).1 (zgt x).2 rfl]
 simp [en, enL]
theorem zxt (x : En) : enL x = ((tr x.t).toList ++ [sv x.bal] ++ (vo x.v).toList ++ [sv x.w] ++ [sv x.late]) ++ ([sv x.k] ++ ([sv x.j] ++ ((cc x.fin).toList ++ ([num x.now])))) ∧ ((tr x.t).toList ++ [sv x.bal] ++ (vo x.v).toList ++ [sv x.w] ++ [sv x.late] : List Value).length = 6 := by
 constructor
 ·
  unfold enL; simp
 ·
  simp [zbf, zaz]
theorem yrr {w : World} {b off : Nat} {x : En} (h : w.rangeAt b off (enL x)) : w.cell? ⟨b, off + 6, none⟩ = some (sv x.k) := zbj h (zxt x).1 (zxt x).2
theorem zml {w : World} {g : Nat} {t : TypeId} {fr : Nat × Nat} {x : En} (h : w.heap[g]? = some (.cells (en x) t fr)) : w.cell? ⟨g, 6, none⟩ = some (sv x.k) := by have := yrr (x := x) (zai h); rwa [Nat.zero_add] at this
theorem z7r (x : En) (y : SlV) : zax (en x) 6 #[sv y] = en { x with k := y } := by
 rw [za0 (c := en x) (r := #[sv y]) (zxt x).1 (zxt x).2 rfl]
 simp [en, enL]
theorem zyg (x : En) : enL x = ((tr x.t).toList ++ [sv x.bal] ++ (vo x.v).toList ++ [sv x.w] ++ [sv x.late] ++ [sv x.k]) ++ ([sv x.j] ++ ((cc x.fin).toList ++ ([num x.now]))) ∧ ((tr x.t).toList ++ [sv x.bal] ++ (vo x.v).toList ++ [sv x.w] ++ [sv x.late] ++ [sv x.k] : List Value).length = 7 := by
 constructor
 ·
  unfold enL; simp
 ·
  simp [zbf, zaz]
theorem ysa {w : World} {b off : Nat} {x : En} (h : w.rangeAt b off (enL x)) : w.cell? ⟨b, off + 7, none⟩ = some (sv x.j) := zbj h (zyg x).1 (zyg x).2
theorem zny {w : World} {g : Nat} {t : TypeId} {fr : Nat × Nat} {x : En} (h : w.heap[g]? = some (.cells (en x) t fr)) : w.cell? ⟨g, 7, none⟩ = some (sv x.j) := by have := ysa (x := x) (zai h); rwa [Nat.zero_add] at this
theorem zx2 (x : En) (y : SlV) : zax (en x) 7 #[sv y] = en { x with j := y } := by
 rw [za0 (c := en x) (r := #[sv y]) (zyg x).1 (zyg x).2 rfl]
 simp [en, enL]
theorem zh7 (x : En) : enL x = ((tr x.t).toList ++ [sv x.bal] ++ (vo x.v).toList ++ [sv x.w] ++ [sv x.late] ++ [sv x.k] ++ [sv x.j]) ++ ((cc x.fin).toList ++ ([num x.now])) ∧ ((tr x.t).toList ++ [sv x.bal] ++ (vo x.v).toList ++ [sv x.w] ++ [sv x.late] ++ [sv x.k] ++ [sv x.j] : List Value).length = 8 := by
 constructor
 ·
  unfold enL; simp
 ·
  simp [zbf, zaz]
theorem yfo {w : World} {b off : Nat} {x : En} (h : w.rangeAt b off (enL x)) : ldA w (.pointer (some ⟨b, off + 8, none⟩)) 33 = some (cc x.fin) := zc3 h (zh7 x).1 (zh7 x).2 (za1 _)
theorem ybh {w : World} {g : Nat} {t : TypeId} {fr : Nat × Nat} {x : En} (h : w.heap[g]? = some (.cells (en x) t fr)) : ldA w (.pointer (some ⟨g, 8, none⟩)) 33 = some (cc x.fin) := by have := yfo (x := x) (zai h); rwa [Nat.zero_add] at this
theorem zvn (x : En) (y : Ck) : zax (en x) 8 (cc y) = en { x with fin := y } := by
 rw [za0 (c := en x) (zh7 x).1 (zh7 x).2 (by simp [za1])]
 simp [en, enL]
theorem znf (x : En) : enL x = ((tr x.t).toList ++ [sv x.bal] ++ (vo x.v).toList ++ [sv x.w] ++ [sv x.late] ++ [sv x.k] ++ [sv x.j] ++ (cc x.fin).toList) ++ ([num x.now] ++ ([])) ∧ ((tr x.t).toList ++ [sv x.bal] ++ (vo x.v).toList ++ [sv x.w] ++ [sv x.late] ++ [sv x.k] ++ [sv x.j] ++ (cc x.fin).toList : List Value).length = 41 := by
 constructor
 ·
  unfold enL; simp
 ·
  simp [zbf, zaz, za1]
theorem yic {w : World} {b off : Nat} {x : En} (h : w.rangeAt b off (enL x)) : w.cell? ⟨b, off + 41, none⟩ = some (num x.now) := zbj h (znf x).1 (znf x).2
theorem z9v {w : World} {g : Nat} {t : TypeId} {fr : Nat × Nat} {x : En} (h : w.heap[g]? = some (.cells (en x) t fr)) : w.cell? ⟨g, 41, none⟩ = some (num x.now) := by have := yic (x := x) (zai h); rwa [Nat.zero_add] at this
theorem zvy (x : En) (y : UInt64) : zax (en x) 41 #[num y] = en { x with now := y } := by
 rw [za0 (c := en x) (r := #[num y]) (znf x).1 (znf x).2 rfl]
 simp [en, enL]
theorem ysq {w : World} {b off : Nat} {x : En} (h : w.rangeAt b off (enL x)) : w.rangeAt b (off + 0) (trL x.t) := by
 rw [← zmf]; exact zdk h (zj3 x).1 (zj3 x).2
theorem yq2 (x : En) (o : Nat) (r : Array Value) (h : o + r.size ≤ 1) : zax (en x) (0 + o) r = zax (en x) 0 (zax (tr x.t) o r) := zz0 (c := en x) (zj3 x).1 (zj3 x).2 (by rw [zbf]; exact h)
theorem yd5 {w : World} {b off : Nat} {x : En} (h : w.rangeAt b off (enL x)) : w.cell? ⟨b, off + 0, none⟩ = some (sv x.t.n) := z5b (ysq h)
theorem zpb {w : World} {g : Nat} {t : TypeId} {fr : Nat × Nat} {x : En} (h : w.heap[g]? = some (.cells (en x) t fr)) : w.cell? ⟨g, 0, none⟩ = some (sv x.t.n) := by have := yd5 (x := x) (zai h); rwa [Nat.zero_add] at this
theorem zvb (x : En) (y : SlV) : zax (en x) 0 #[sv y] = en { x with t := { x.t with n := y } } := by
 rw [show 0 = 0 + 0 from rfl, yq2 x 0 _ (by simp), zn4, zws]
attribute [go_sem] zvb
@[go_sem] theorem yap (x : En) (y : SlV) : (en x).setIfInBounds 0 (sv y) = en { x with t := { x.t with n := y } } := by
 rw [za9 (by rw [zas]; decide)]; exact zvb x y
theorem ypu {w : World} {b off : Nat} {x : En} (h : w.rangeAt b off (enL x)) : w.rangeAt b (off + 2) (voL x.v) := by
 rw [← zsk]; exact zdk h (zj0 x).1 (zj0 x).2
theorem yr1 (x : En) (o : Nat) (r : Array Value) (h : o + r.size ≤ 2) : zax (en x) (2 + o) r = zax (en x) 2 (zax (vo x.v) o r) := zz0 (c := en x) (zj0 x).1 (zj0 x).2 (by rw [zaz]; exact h)
theorem yfb {w : World} {b off : Nat} {x : En} (h : w.rangeAt b off (enL x)) : w.cell? ⟨b, off + 2, none⟩ = some (sv x.v.l) := ye4 (ypu h)
theorem zoi {w : World} {g : Nat} {t : TypeId} {fr : Nat × Nat} {x : En} (h : w.heap[g]? = some (.cells (en x) t fr)) : w.cell? ⟨g, 2, none⟩ = some (sv x.v.l) := by have := yfb (x := x) (zai h); rwa [Nat.zero_add] at this
theorem zvm (x : En) (y : SlV) : zax (en x) 2 #[sv y] = en { x with v := { x.v with l := y } } := by
 rw [show 2 = 2 + 0 from rfl, yr1 x 0 _ (by simp), zq6, zxa]
attribute [go_sem] zvm
@[go_sem] theorem z9m (x : En) (y : SlV) : (en x).setIfInBounds 2 (sv y) = en { x with v := { x.v with l := y } } := by
 rw [za9 (by rw [zas]; decide)]; exact zvm x y
theorem z1h {w : World} {b off : Nat} {x : En} (h : w.rangeAt b off (enL x)) : w.rangeAt b (off + 8) (ccL x.fin) := by
 rw [← zb3]; exact zdk h (zh7 x).1 (zh7 x).2
theorem zrk {w : World} {b off : Nat} {x : En} (h : w.rangeAt b off (enL x)) : w.cell? ⟨b, off + 8, none⟩ = some (num x.fin.epoch) := zfe (z1h h)
theorem zf0 {w : World} {g : Nat} {t : TypeId} {fr : Nat × Nat} {x : En} (h : w.heap[g]? = some (.cells (en x) t fr)) : w.cell? ⟨g, 8, none⟩ = some (num x.fin.epoch) := by have := zrk (x := x) (zai h); rwa [Nat.zero_add] at this
theorem zun {w : World} {b off : Nat} {x : En} (h : w.rangeAt b off (enL x)) : ldA w (.pointer (some ⟨b, off + 9, none⟩)) 32 = some (rc x.fin.root) := zgn (z1h h)
theorem zt0 {w : World} {g : Nat} {t : TypeId} {fr : Nat × Nat} {x : En} (h : w.heap[g]? = some (.cells (en x) t fr)) : ldA w (.pointer (some ⟨g, 9, none⟩)) 32 = some (rc x.fin.root) := by have := zun (x := x) (zai h); rwa [Nat.zero_add] at this
@[go_sem] theorem yaz (x : En) (y : SlV) : (en x).setIfInBounds 1 (sv y) = en { x with bal := y } := by
 rw [za9 (by rw [zas]; decide)]; exact zoq x y
@[go_sem] theorem zx4 (x : En) (y : SlV) : (en x).setIfInBounds 4 (sv y) = en { x with w := y } := by
 rw [za9 (by rw [zas]; decide)]; exact zxe x y
@[go_sem] theorem zsg (x : En) (y : SlV) : (en x).setIfInBounds 5 (sv y) = en { x with late := y } := by
 rw [za9 (by rw [zas]; decide)]; exact zlq x y
@[go_sem] theorem yob (x : En) (p : Option Addr) (k c : Nat) : (en x).setIfInBounds 5 (.slice p k c) = en { x with late := ⟨p, k, c⟩ } := by
 rw [za9 (by rw [zas]; decide)]; exact zlq x ⟨p, k, c⟩
@[go_sem] theorem zzb (x : En) (y : SlV) : (en x).setIfInBounds 6 (sv y) = en { x with k := y } := by
 rw [za9 (by rw [zas]; decide)]; exact z7r x y
@[go_sem] theorem zw2 (x : En) (y : SlV) : (en x).setIfInBounds 7 (sv y) = en { x with j := y } := by
 rw [za9 (by rw [zas]; decide)]; exact zx2 x y
@[go_sem] theorem yaq (x : En) (y : UInt64) : (en x).setIfInBounds 41 (num y) = en { x with now := y } := by
 rw [za9 (by rw [zas]; decide)]; exact zvy x y
attribute [go_sem] zws zoq zxa zxe zlq z7r zx2 zvn zvy
@[go_sem] theorem yrg (x : En) (p : Option Addr) (k c : Nat) : zax (en x) 1 #[.slice p k c] = en { x with bal := ⟨p, k, c⟩ } := zoq x ⟨p, k, c⟩
@[go_sem] theorem yuq (x : En) (p : Option Addr) (k c : Nat) : zax (en x) 4 #[.slice p k c] = en { x with w := ⟨p, k, c⟩ } := zxe x ⟨p, k, c⟩
@[go_sem] theorem ytz (x : En) (p : Option Addr) (k c : Nat) : zax (en x) 7 #[.slice p k c] = en { x with j := ⟨p, k, c⟩ } := zx2 x ⟨p, k, c⟩
theorem z8y : Tryz.prog.cellsOf 39 = 42 := by kernel_rfl
section
open Go.WideShapes Go.ChangeShapes
variable {H : Type} {enc : TypeId × Value → H} {w : World} {base : Nat} {sp : Nat → Bool} {held : Bool}
theorem ykm {fuel : Nat} {cs : List Value} {x : DataW H × List MemPlace} (hl : cs.length = 42) (h : DataW.trod enc Tryz.prog w base sp held fuel 39 cs = some x) : ∃ a : En, cs = enL a ∧ (∃ l, SlE Ene w (sv a.t.n) l) ∧ (∃ l, SlE Enum w (sv a.bal) l) ∧ (∃ l, SlE Elt w (sv a.v.l) l) ∧ (∃ l, SlE Enum w (sv a.w) l) ∧ (∃ l, SlE Eaa w (sv a.late) l) ∧ (∃ l, SlE Elk w (sv a.k) l) ∧ (∃ l, SlE Ecc w (sv a.j) l) := by
 obtain ⟨_, _, h0⟩ := zaw (i := 0) zd8 zij rfl h
 rw [ya6] at h0
 obtain ⟨a0, e0, k0_0⟩ := yll (by rw [List.length_take, List.length_drop]; omega) h0
 rw [← zmf] at e0
 obtain ⟨_, _, h1⟩ := zaw (i := 1) zd8 zij rfl h
 rw [show Tryz.prog.cellsOf 24 = 1 from by kernel_rfl] at h1
 obtain ⟨a1, e1, k1_0⟩ := zv7 h1
 obtain ⟨_, _, h2⟩ := zaw (i := 2) zd8 zij rfl h
 rw [yan] at h2
 obtain ⟨a2, e2, k2_0⟩ := ynh (by rw [List.length_take, List.length_drop]; omega) h2
 rw [← zsk] at e2
 obtain ⟨_, _, h3⟩ := zaw (i := 3) zd8 zij rfl h
 rw [show Tryz.prog.cellsOf 24 = 1 from by kernel_rfl] at h3
 obtain ⟨a3, e3, k3_0⟩ := zv7 h3
 obtain ⟨_, _, h4⟩ := zaw (i := 4) zd8 zij rfl h
 rw [show Tryz.prog.cellsOf 33 = 1 from by kernel_rfl] at h4
 obtain ⟨a4, e4, k4_0⟩ := ycy h4
 obtain ⟨_, _, h5⟩ := zaw (i := 5) zd8 zij rfl h
 rw [show Tryz.prog.cellsOf 34 = 1 from by kernel_rfl] at h5
 obtain ⟨a5, e5, k5_0⟩ := ydd h5
 obtain ⟨_, _, h6⟩ := zaw (i := 6) zd8 zij rfl h
 rw [show Tryz.prog.cellsOf 35 = 1 from by kernel_rfl] at h6
 obtain ⟨a6, e6, k6_0⟩ := ydq h6
 obtain ⟨_, _, h7⟩ := zaw (i := 7) zd8 zij rfl h
 rw [zc5] at h7
 obtain ⟨a7, e7⟩ := zkt (by rw [List.length_take, List.length_drop]; omega) h7
 rw [← zb3] at e7
 obtain ⟨_, _, h8⟩ := zaw (i := 8) zd8 zij rfl h
 rw [zb9] at h8
 obtain ⟨a8, e8⟩ := zdh h8
 refine ⟨⟨a0, a1, a2, a3, a4, a5, a6, a7, a8⟩, ?_, k0_0, k1_0, k2_0, k3_0, k4_0, k5_0, k6_0⟩
 unfold enL
 have j0 := zbc cs 0 1
 rw [e0] at j0
 have j1 := zbc cs 1 1
 rw [e1] at j1
 have j2 := zbc cs 2 2
 rw [e2] at j2
 have j3 := zbc cs 4 1
 rw [e3] at j3
 have j4 := zbc cs 5 1
 rw [e4] at j4
 have j5 := zbc cs 6 1
 rw [e5] at j5
 have j6 := zbc cs 7 1
 rw [e6] at j6
 have j7 := zbc cs 8 33
 rw [e7] at j7
 have j8 := zbc cs 41 1
 rw [e8] at j8
 have jl : cs.drop 42 = [] := List.drop_of_length_le (by omega)
 rw [show (41 + 1) = 42 from rfl, jl, List.append_nil] at j8
 rw [← List.drop_zero (l := cs)]
 rw [← j0]
 rw [show cs.drop (0 + 1) = cs.drop 1 from rfl, ← j1]
 rw [show cs.drop (1 + 1) = cs.drop 2 from rfl, ← j2]
 rw [show cs.drop (2 + 2) = cs.drop 4 from rfl, ← j3]
 rw [show cs.drop (4 + 1) = cs.drop 5 from rfl, ← j4]
 rw [show cs.drop (5 + 1) = cs.drop 6 from rfl, ← j5]
 rw [show cs.drop (6 + 1) = cs.drop 7 from rfl, ← j6]
 rw [show cs.drop (7 + 1) = cs.drop 8 from rfl, ← j7]
 rw [show cs.drop (8 + 33) = cs.drop 41 from rfl, ← j8]
 try rfl
theorem open_en {r : Reach} {b0 : Nat} {v : Value} {d : DataW H} {ps : List MemPlace} (hval : Value.okWide Tryz.prog w r b0 39 v) (hd : DataW.Trod enc Tryz.prog w base sp held 39 v d ps) : ∃ a : En, v = .agg (en a) ∧ (∃ l, SlE Ene w (sv a.t.n) l) ∧ (∃ l, SlE Enum w (sv a.bal) l) ∧ (∃ l, SlE Elt w (sv a.v.l) l) ∧ (∃ l, SlE Enum w (sv a.w) l) ∧ (∃ l, SlE Eaa w (sv a.late) l) ∧ (∃ l, SlE Elk w (sv a.k) l) ∧ (∃ l, SlE Ecc w (sv a.j) l) := by
 obtain ⟨xs, rfl, hn⟩ := okWide_struct zd8 hval
 rw [z8y] at hn
 obtain ⟨fuel, hf⟩ := hd
 obtain ⟨a, ha, k0_0, k1_0, k2_0, k3_0, k4_0, k5_0, k6_0⟩ := ykm (cs := xs.toList) (by rw [Array.length_toList, hn]) hf
 exact ⟨a, by rw [show xs = en a from Array.toList_inj.1 ha], k0_0, k1_0, k2_0, k3_0, k4_0, k5_0, k6_0⟩
end
attribute [irreducible] en
end
end Go.Proofs.YtmihlihlpdkdcaaGreat
