import Derived.Test.YtmihlihlpdkdcaaGreatS03
import Derived.Test.YtmihlihlpdkdcaaGreatS04
namespace Go.Proofs.YtmihlihlpdkdcaaGreat
open Go.RowKit
set_option maxRecDepth 200000
set_option maxHeartbeats 64000000
section
open Go.RowKit
def lkL (x : Lk) : List Value := (cc x.s).toList ++ ((cc x.t).toList ++ ([num x.mask]))
def lk (x : Lk) : Array Value := (lkL x).toArray
theorem zpg (x : Lk) : (lk x).toList = lkL x := rfl
theorem ykk (x : Lk) : (lkL x).length = 67 := by simp [lkL, zaw]
theorem zhj (x : Lk) : (lk x).size = 67 := by rw [← Array.length_toList, zpg, ykk]
theorem yj4 (x : Lk) : ∀ v ∈ lkL x, v.oneCell' = true := by
 intro v hv
 unfold lkL at hv
 simp only [List.mem_append, List.mem_singleton] at hv
 rcases hv with hv | hv | rfl
 ·
  exact zle _ v (by rw [zcj] at hv; exact hv)
 ·
  exact zle _ v (by rw [zcj] at hv; exact hv)
 ·
  rfl
@[go_sem] theorem yue (x : Lk) : okA 67 (.agg (lk x)) = true := by
 show ((lk x).size == 67 && (lk x).all (·.oneCell')) = true
 rw [show (lk x).all (·.oneCell') = true from ze6 (yj4 x), zhj]; rfl
def zlk : Lk := ⟨zcc, zcc, 0⟩
theorem zwk (w : World) : (zeroValue 110).run Tryz.prog w = .ok (.agg (lk zlk)) w := by kernel_rfl
@[go_sem ↓] theorem ys3 (ρ : Operand → Value) (dst : Option Tmp) (x : Operand) (ty : TypeId) (pos : String) (after : Array Edge) (guard : Option (Nat × Bool)) (w : World) :
  (execOp ρ { dst, op := .load 110 x, type := ty, pos, after, guard }).run Tryz.prog w = zh7 (ldA w (ρ x) 67) w (za4 Tryz.prog ρ { dst, op := .load 110 x, type := ty, pos, after, guard } w) :=
 zbh Tryz.isAgg110 Tryz.sizeOf110 ρ dst x ty pos after guard w
@[go_sem ↓] theorem ysy (ρ : Operand → Value) (dst : Option Tmp) (x y : Operand) (ty : TypeId) (pos : String) (after : Array Edge) (guard : Option (Nat × Bool)) (w : World) :
  (execOp ρ { dst, op := .store 110 x y, type := ty, pos, after, guard }).run Tryz.prog w = zh8 (wrA w (ρ x) 67 && okA 67 (ρ y)) (stA w (ρ x) (ρ y)) (za4 Tryz.prog ρ { dst, op := .store 110 x y, type := ty, pos, after, guard } w) :=
 za7 Tryz.sizeOf110 ρ dst x y ty pos after guard w
@[go_sem ↓] theorem yr9 (ρ : Operand → Value) (dst : Option Tmp) (ty : TypeId) (pos : String) (after : Array Edge) (guard : Option (Nat × Bool)) (w : World) :
  (execOp ρ { dst, op := .alloc 110, type := ty, pos, after, guard }).run Tryz.prog w = .ok (.value (.pointer (some ⟨w.heap.size, 0, none⟩))) (w.alloc (.cells (lk zlk) 110)) := by
 unfold execOp
 simp only [Instr.alloc, Sem.run_bind, zwk, Result.andThen_ok]
 rfl
def places_lk : List (Nat × Nat) := [(0, 33), (33, 33), (66, 1)]
theorem z98 : ∀ w : World, ((Tryz.prog.fieldsOf 110).mapM (m := Sem) fun f => do pure (f.offset, ← Go.sizeOf f.type)).run Tryz.prog w = .ok places_lk.toArray w := fun _ => by kernel_rfl
theorem z3z : Tryz.prog.underlying 110 = some (.struct (Tryz.prog.fieldsOf 110)) := by kernel_rfl
theorem yl6 : (Tryz.prog.fieldsOf 110).toList.map (fun f => (f.name, f.type, f.offset)) = [("S", 37, 0), ("T", 37, 33), ("Mask", 30, 66)] := by kernel_rfl
@[go_sem ↓] theorem ysp (ρ : Operand → Value) (dst : Option Tmp) (p : Nat × Operand) (ps : List (Nat × Operand)) (ty : TypeId) (pos : String) (after : Array Edge) (guard : Option (Nat × Bool)) (w : World) :
  (execOp ρ { dst, op := .build 110 (p :: ps).toArray, type := ty, pos, after, guard }).run Tryz.prog w = zgr ((zhi places_lk (lk zlk) ((p.1, ρ p.2) :: ps.map fun p => (p.1, ρ p.2))).map .agg) w (za4 Tryz.prog ρ { dst, op := .build 110 (p :: ps).toArray, type := ty, pos, after, guard } w) :=
 zb2 zwk z3z z98 ρ dst (p :: ps).toArray ty pos after guard w
attribute [go_sem] places_lk zhj
theorem ziq (x : Lk) : lkL x = ([]) ++ ((cc x.s).toList ++ ((cc x.t).toList ++ ([num x.mask]))) ∧ ([] : List Value).length = 0 := by
 constructor
 ·
  unfold lkL; simp
 ·
  rfl
theorem z2z (x : Lk) : (lk x).extract 0 (0 + 33) = cc x.s := zci (ziq x).1 (ziq x).2 (zaw _)
theorem ym8 {w : World} {b off : Nat} {x : Lk} (h : w.rangeAt b off (lkL x)) : ldA w (.pointer (some ⟨b, off + 0, none⟩)) 33 = some (cc x.s) := zcs h (ziq x).1 (ziq x).2 (zaw _)
theorem yg9 {w : World} {g : Nat} {t : TypeId} {fr : Nat × Nat} {x : Lk} (h : w.heap[g]? = some (.cells (lk x) t fr)) : ldA w (.pointer (some ⟨g, 0, none⟩)) 33 = some (cc x.s) := by have := ym8 (x := x) (zah h); rwa [Nat.zero_add] at this
theorem yha (x : Lk) (y : Ck) : zat (lk x) 0 (cc y) = lk { x with s := y } := by
 rw [zau (c := lk x) (ziq x).1 (ziq x).2 (by simp [zaw])]
 simp [lk, lkL]
theorem zid (x : Lk) : lkL x = ((cc x.s).toList) ++ ((cc x.t).toList ++ ([num x.mask])) ∧ ((cc x.s).toList : List Value).length = 33 := by
 constructor
 ·
  unfold lkL; simp
 ·
  simp [zaw]
theorem z3o (x : Lk) : (lk x).extract 33 (33 + 33) = cc x.t := zci (zid x).1 (zid x).2 (zaw _)
theorem yln {w : World} {b off : Nat} {x : Lk} (h : w.rangeAt b off (lkL x)) : ldA w (.pointer (some ⟨b, off + 33, none⟩)) 33 = some (cc x.t) := zcs h (zid x).1 (zid x).2 (zaw _)
theorem yiw {w : World} {g : Nat} {t : TypeId} {fr : Nat × Nat} {x : Lk} (h : w.heap[g]? = some (.cells (lk x) t fr)) : ldA w (.pointer (some ⟨g, 33, none⟩)) 33 = some (cc x.t) := by have := yln (x := x) (zah h); rwa [Nat.zero_add] at this
theorem yhy (x : Lk) (y : Ck) : zat (lk x) 33 (cc y) = lk { x with t := y } := by
 rw [zau (c := lk x) (zid x).1 (zid x).2 (by simp [zaw])]
 simp [lk, lkL]
theorem zfs (x : Lk) : lkL x = ((cc x.s).toList ++ (cc x.t).toList) ++ ([num x.mask] ++ ([])) ∧ ((cc x.s).toList ++ (cc x.t).toList : List Value).length = 66 := by
 constructor
 ·
  unfold lkL; simp
 ·
  simp [zaw]
theorem zpz (x : Lk) : (lk x)[66]? = some (num x.mask) := zhy (zfs x).1 (zfs x).2
theorem zsq {w : World} {b off : Nat} {x : Lk} (h : w.rangeAt b off (lkL x)) : w.cell? ⟨b, off + 66, none⟩ = some (num x.mask) := zbd h (zfs x).1 (zfs x).2
theorem z0y {w : World} {g : Nat} {t : TypeId} {fr : Nat × Nat} {x : Lk} (h : w.heap[g]? = some (.cells (lk x) t fr)) : w.cell? ⟨g, 66, none⟩ = some (num x.mask) := by have := zsq (x := x) (zah h); rwa [Nat.zero_add] at this
theorem zq3 (x : Lk) (y : UInt64) : zat (lk x) 66 #[num y] = lk { x with mask := y } := by
 rw [zau (c := lk x) (r := #[num y]) (zfs x).1 (zfs x).2 rfl]
 simp [lk, lkL]
theorem z9m {w : World} {b off : Nat} {x : Lk} (h : w.rangeAt b off (lkL x)) : w.rangeAt b (off + 0) (ccL x.s) := by
 rw [← zcj]; exact zc3 h (ziq x).1 (ziq x).2
theorem zvf {w : World} {b off : Nat} {x : Lk} (h : w.rangeAt b off (lkL x)) : w.cell? ⟨b, off + 0, none⟩ = some (num x.s.epoch) := zel (z9m h)
theorem zr4 {w : World} {g : Nat} {t : TypeId} {fr : Nat × Nat} {x : Lk} (h : w.heap[g]? = some (.cells (lk x) t fr)) : w.cell? ⟨g, 0, none⟩ = some (num x.s.epoch) := by have := zvf (x := x) (zah h); rwa [Nat.zero_add] at this
theorem zxi {w : World} {b off : Nat} {x : Lk} (h : w.rangeAt b off (lkL x)) : ldA w (.pointer (some ⟨b, off + 1, none⟩)) 32 = some (rc x.s.root) := zfu (z9m h)
theorem zkt {w : World} {g : Nat} {t : TypeId} {fr : Nat × Nat} {x : Lk} (h : w.heap[g]? = some (.cells (lk x) t fr)) : ldA w (.pointer (some ⟨g, 1, none⟩)) 32 = some (rc x.s.root) := by have := zxi (x := x) (zah h); rwa [Nat.zero_add] at this
theorem z9f {w : World} {b off : Nat} {x : Lk} (h : w.rangeAt b off (lkL x)) : w.rangeAt b (off + 33) (ccL x.t) := by
 rw [← zcj]; exact zc3 h (zid x).1 (zid x).2
theorem zvh {w : World} {b off : Nat} {x : Lk} (h : w.rangeAt b off (lkL x)) : w.cell? ⟨b, off + 33, none⟩ = some (num x.t.epoch) := zel (z9f h)
theorem zjw {w : World} {g : Nat} {t : TypeId} {fr : Nat × Nat} {x : Lk} (h : w.heap[g]? = some (.cells (lk x) t fr)) : w.cell? ⟨g, 33, none⟩ = some (num x.t.epoch) := by have := zvh (x := x) (zah h); rwa [Nat.zero_add] at this
theorem zwp {w : World} {b off : Nat} {x : Lk} (h : w.rangeAt b off (lkL x)) : ldA w (.pointer (some ⟨b, off + 34, none⟩)) 32 = some (rc x.t.root) := zfu (z9f h)
theorem zll {w : World} {g : Nat} {t : TypeId} {fr : Nat × Nat} {x : Lk} (h : w.heap[g]? = some (.cells (lk x) t fr)) : ldA w (.pointer (some ⟨g, 34, none⟩)) 32 = some (rc x.t.root) := by have := zwp (x := x) (zah h); rwa [Nat.zero_add] at this
attribute [go_sem] yha yhy zq3
@[go_sem] theorem ykd (x : Lk) (y : UInt64) : zat (lk x) 66 #[.int .u64 (y.toNat : Int)] = lk { x with mask := y } := zq3 x y
theorem ypt (d : Nat) (x y : Lk) (w : World) : (Op.equalIn (d + 4) 110 (.agg (lk x)) (.agg (lk y))).run Tryz.prog w = .ok (decide (x = y)) w := by
 rw [show d + 4 = (d + 3) + 1 from rfl, run_equalIn_struct w (d + 3) _ _ _ z3z (by kernel_rfl)]
 rw [zcf yl6 (by decide) (zim _ _ _ (z2z x) w) (zim _ _ _ (z2z y) w) (zze (d + 0) _ _ w)
  (fun _ h1 => zcf h1 (by decide) (zim _ _ _ (z3o x) w) (zim _ _ _ (z3o y) w) (zze (d + 0) _ _ w)
  (fun _ h2 => zcf h2 (by decide) (zok _ _ _ (zpz x) w) (zok _ _ _ (zpz y) w) (z8n (d + 2) _ _ w)
  (fun _ hn => zp8 hn)))]
 congr 1
 rw [Bool.eq_iff_iff]
 simp only [Bool.and_eq_true, decide_eq_true_iff, and_true]
 exact ⟨fun h => Lk.ext h.1 h.2.1 h.2.2, fun h => by subst h; exact ⟨rfl, rfl, rfl⟩⟩
@[go_sem ↓] theorem yuw (x y : Lk) (w : World) : (Op.equalIn 10000 110 (.agg (lk x)) (.agg (lk y))).run Tryz.prog w = .ok (decide (x = y)) w := ypt 9996 x y w
section
open Go.WideShapes Go.ChangeShapes
variable {H : Type} {enc : TypeId × Value → H} {w : World} {base : Nat} {sp : Nat → Bool} {held : Bool}
end
def Elk : Lie Lk := ⟨110, 67, lkL, by decide, ykk, yj4⟩
attribute [irreducible] lk
end
section
open Go.RowKit
theorem z0u : (Tryz.prog.info? 110).map (fun i => (i.zero, i.size, i.bytes)) = some (some (.agg (lk zlk)), 67, 88) := by kernel_rfl
theorem Klk : Known Tryz.prog Elk 34 := ⟨Tryz.underlying34, .agg (lk zlk), 88, z0u, by show ((lk zlk)).size = _; exact zhj _, by decide⟩
@[go_sem ↓] theorem yip (ρ : Operand → Value) (dst : Option Tmp) (x lo : Operand) (ty : TypeId) (pos : String) (after : Array Edge) (guard : Option (Nat × Bool)) (w : World) :
  (execOp ρ { dst, op := .slice 34 x (some lo) none none, type := ty, pos, after, guard }).run Tryz.prog w = zgr (z0r 67 (ρ x) (ρ lo)) w (za4 Tryz.prog ρ { dst, op := .slice 34 x (some lo) none none, type := ty, pos, after, guard } w) :=
 zob Tryz.underlying34 Tryz.sizeOf110 ρ dst x lo ty pos after guard w
@[go_sem ↓] theorem yhs (ρ : Operand → Value) (dst : Option Tmp) (x : Operand) (ty : TypeId) (pos : String) (after : Array Edge) (guard : Option (Nat × Bool)) (w : World) (hx : okA 67 (ρ x) = true) :
  (execOp ρ { dst, op := .buildSlice 34 1 #[(0, x)], type := ty, pos, after, guard }).run Tryz.prog w = .ok (.value (.slice (some ⟨w.heap.size, 0, none⟩) 1 1)) (w.alloc (.cells (zgk (ρ x)) 110)) := by
 obtain ⟨c, hc, hn⟩ : ∃ c, ρ x = .agg c ∧ c.size = 67 := by
  unfold okA at hx
  split at hx
  ·
   rename_i c hc
   rw [Bool.and_eq_true, beq_iff_eq] at hx
   exact ⟨c, hc, hx.1⟩
  ·
   cases hx
 have hp : (1 * 67 > 2 ^ 24) = False := by simp
 have h0 : (1 * 67 = 0) = False := by simp
 unfold execOp
 simp only [Instr.buildSlice, Sem.run_bind, run_underlying Tryz.underlying34, Result.andThen_ok, Tryz.sizeOf110, hp, h0, if_false, zwk, Value.cells]
 simp only [List.map_toArray, List.map_cons, List.map_nil, hc, Instr.fill, Value.cells, hn, Nat.zero_mul]
 simp [zgk]
 rw [zie _ c (by simp [hn])]
 rfl
section
open Go.WideShapes Go.ChangeShapes
variable {H : Type} {enc : TypeId × Value → H} {w : World} {base : Nat} {sp : Nat → Bool} {held : Bool}
end
end
section
open Go.RowKit
theorem zo7 : (Tryz.prog.info? 30).map (fun i => (i.zero, i.size, i.bytes)) = some (some (num 0), 1, 8) := by kernel_rfl
theorem Knum : Known Tryz.prog Enum 24 := ⟨Tryz.underlying24, num 0, 8, zo7, rfl, by decide⟩
section
open Go.WideShapes Go.ChangeShapes
variable {H : Type} {enc : TypeId × Value → H} {w : World} {base : Nat} {sp : Nat → Bool} {held : Bool}
theorem yax {fuel : Nat} {v : Value} {x : DataW H × List MemPlace} (h : DataW.trod enc Tryz.prog w base sp held fuel 24 [v] = some x) : ∃ l : List UInt64, SlE Enum w v l :=
 yl9 Tryz.underlying24 z2s (fun _ _ _ h => ydo h) h
theorem open_nums {r : Reach} {b0 : Nat} {v : Value} {d : DataW H} {ps : List MemPlace} (hval : Value.okWide Tryz.prog w r b0 24 v) (hd : DataW.Trod enc Tryz.prog w base sp held 24 v d ps) : ∃ l : List UInt64, SlE Enum w v l := by
 obtain ⟨a, len, cap, rfl⟩ := okWide_slice Tryz.underlying24 hval
 obtain ⟨fuel, hf⟩ := hd
 exact yax hf
end
end
section
open Go.RowKit
structure En where
 t : Tr
 bal : SlV
 v : Vo
 w : SlV
 late : SlV
 k : SlV
 j : SlV
 fin : Ck
 now : UInt64
def enL (x : En) : List Value := (tr x.t).toList ++ ([sv x.bal] ++ ((vo x.v).toList ++ ([sv x.w] ++ ([sv x.late] ++ ([sv x.k] ++ ([sv x.j] ++ ((cc x.fin).toList ++ ([num x.now]))))))))
def en (x : En) : Array Value := (enL x).toArray
theorem z2k (x : En) : (en x).toList = enL x := rfl
theorem yp4 (x : En) : (enL x).length = 42 := by simp [enL, za5, zas, zaw]
theorem zak (x : En) : (en x).size = 42 := by rw [← Array.length_toList, z2k, yp4]
theorem yrx (x : En) : ∀ v ∈ enL x, v.oneCell' = true := by
 intro v hv
 unfold enL at hv
 simp only [List.mem_append, List.mem_singleton] at hv
 rcases hv with hv | rfl | hv | rfl | rfl | rfl | rfl | hv | rfl
 ·
  exact yaa _ v (by rw [zmp] at hv; exact hv)
 ·
  rfl
 ·
  exact yku _ v (by rw [zut] at hv; exact hv)
 ·
  rfl
 ·
  rfl
 ·
  rfl
 ·
  rfl
 ·
  exact zle _ v (by rw [zcj] at hv; exact hv)
 ·
  rfl
@[go_sem] theorem yuc (x : En) : okA 42 (.agg (en x)) = true := by
 show ((en x).size == 42 && (en x).all (·.oneCell')) = true
 rw [show (en x).all (·.oneCell') = true from ze6 (yrx x), zak]; rfl
def zen : En := ⟨ztr, ⟨none, 0, 0⟩, zvo, ⟨none, 0, 0⟩, ⟨none, 0, 0⟩, ⟨none, 0, 0⟩, ⟨none, 0, 0⟩, zcc, 0⟩
theorem z0f (w : World) : (zeroValue 39).run Tryz.prog w = .ok (.agg (en zen)) w := by kernel_rfl
@[go_sem ↓] theorem yt4 (ρ : Operand → Value) (dst : Option Tmp) (x : Operand) (ty : TypeId) (pos : String) (after : Array Edge) (guard : Option (Nat × Bool)) (w : World) :
  (execOp ρ { dst, op := .load 39 x, type := ty, pos, after, guard }).run Tryz.prog w = zh7 (ldA w (ρ x) 42) w (za4 Tryz.prog ρ { dst, op := .load 39 x, type := ty, pos, after, guard } w) :=
 zbh Tryz.isAgg39 Tryz.sizeOf39 ρ dst x ty pos after guard w
@[go_sem ↓] theorem ysw (ρ : Operand → Value) (dst : Option Tmp) (x y : Operand) (ty : TypeId) (pos : String) (after : Array Edge) (guard : Option (Nat × Bool)) (w : World) :
  (execOp ρ { dst, op := .store 39 x y, type := ty, pos, after, guard }).run Tryz.prog w = zh8 (wrA w (ρ x) 42 && okA 42 (ρ y)) (stA w (ρ x) (ρ y)) (za4 Tryz.prog ρ { dst, op := .store 39 x y, type := ty, pos, after, guard } w) :=
 za7 Tryz.sizeOf39 ρ dst x y ty pos after guard w
@[go_sem ↓] theorem ysq (ρ : Operand → Value) (dst : Option Tmp) (ty : TypeId) (pos : String) (after : Array Edge) (guard : Option (Nat × Bool)) (w : World) :
  (execOp ρ { dst, op := .alloc 39, type := ty, pos, after, guard }).run Tryz.prog w = .ok (.value (.pointer (some ⟨w.heap.size, 0, none⟩))) (w.alloc (.cells (en zen) 39)) := by
 unfold execOp
 simp only [Instr.alloc, Sem.run_bind, z0f, Result.andThen_ok]
 rfl
def places_en : List (Nat × Nat) := [(0, 1), (1, 1), (2, 2), (4, 1), (5, 1), (6, 1), (7, 1), (8, 33), (41, 1)]
theorem zwv : ∀ w : World, ((Tryz.prog.fieldsOf 39).mapM (m := Sem) fun f => do pure (f.offset, ← Go.sizeOf f.type)).run Tryz.prog w = .ok places_en.toArray w := fun _ => by kernel_rfl
theorem z46 : Tryz.prog.underlying 39 = some (.struct (Tryz.prog.fieldsOf 39)) := by kernel_rfl
@[go_sem ↓] theorem yr7 (ρ : Operand → Value) (dst : Option Tmp) (p : Nat × Operand) (ps : List (Nat × Operand)) (ty : TypeId) (pos : String) (after : Array Edge) (guard : Option (Nat × Bool)) (w : World) :
  (execOp ρ { dst, op := .build 39 (p :: ps).toArray, type := ty, pos, after, guard }).run Tryz.prog w = zgr ((zhi places_en (en zen) ((p.1, ρ p.2) :: ps.map fun p => (p.1, ρ p.2))).map .agg) w (za4 Tryz.prog ρ { dst, op := .build 39 (p :: ps).toArray, type := ty, pos, after, guard } w) :=
 zb2 z0f z46 zwv ρ dst (p :: ps).toArray ty pos after guard w
@[go_sem ↓] theorem yqz (ρ : Operand → Value) (dst : Option Tmp) (ty : TypeId) (pos : String) (after : Array Edge) (guard : Option (Nat × Bool)) (w : World) :
  (execOp ρ { dst, op := .build 39 #[], type := ty, pos, after, guard }).run Tryz.prog w = .ok (.value (.agg (en zen))) w :=
 zb2 z0f z46 zwv ρ dst #[] ty pos after guard w
attribute [go_sem] places_en zak
theorem ziu (x : En) : enL x = ([]) ++ ((tr x.t).toList ++ ([sv x.bal] ++ ((vo x.v).toList ++ ([sv x.w] ++ ([sv x.late] ++ ([sv x.k] ++ ([sv x.j] ++ ((cc x.fin).toList ++ ([num x.now]))))))))) ∧ ([] : List Value).length = 0 := by
 constructor
 ·
  unfold enL; simp
 ·
  rfl
theorem yoh {w : World} {b off : Nat} {x : En} (h : w.rangeAt b off (enL x)) : ldA w (.pointer (some ⟨b, off + 0, none⟩)) 1 = some (tr x.t) := zcs h (ziu x).1 (ziu x).2 (za5 _)
theorem yim {w : World} {g : Nat} {t : TypeId} {fr : Nat × Nat} {x : En} (h : w.heap[g]? = some (.cells (en x) t fr)) : ldA w (.pointer (some ⟨g, 0, none⟩)) 1 = some (tr x.t) := by have := yoh (x := x) (zah h); rwa [Nat.zero_add] at this
theorem zt8 (x : En) (y : Tr) : zat (en x) 0 (tr y) = en { x with t := y } := by
 rw [zau (c := en x) (ziu x).1 (ziu x).2 (by simp [za5])]
 simp [en, enL]
theorem zlz (x : En) : enL x = ((tr x.t).toList) ++ ([sv x.bal] ++ ((vo x.v).toList ++ ([sv x.w] ++ ([sv x.late] ++ ([sv x.k] ++ ([sv x.j] ++ ((cc x.fin).toList ++ ([num x.now])))))))) ∧ ((tr x.t).toList : List Value).length = 1 := by
 constructor
 ·
  unfold enL; simp
 ·
  simp [za5]
theorem yal {w : World} {b off : Nat} {x : En} (h : w.rangeAt b off (enL x)) : w.cell? ⟨b, off + 1, none⟩ = some (sv x.bal) := zbd h (zlz x).1 (zlz x).2
theorem zmi {w : World} {g : Nat} {t : TypeId} {fr : Nat × Nat} {x : En} (h : w.heap[g]? = some (.cells (en x) t fr)) : w.cell? ⟨g, 1, none⟩ = some (sv x.bal) := by have := yal (x := x) (zah h); rwa [Nat.zero_add] at this
theorem zmx (x : En) (y : SlV) : zat (en x) 1 #[sv y] = en { x with bal := y } := by
 rw [zau (c := en x) (r := #[sv y]) (zlz x).1 (zlz x).2 rfl]
 simp [en, enL]
theorem zia (x : En) : enL x = ((tr x.t).toList ++ [sv x.bal]) ++ ((vo x.v).toList ++ ([sv x.w] ++ ([sv x.late] ++ ([sv x.k] ++ ([sv x.j] ++ ((cc x.fin).toList ++ ([num x.now]))))))) ∧ ((tr x.t).toList ++ [sv x.bal] : List Value).length = 2 := by
 constructor
 ·
  unfold enL; simp
 ·
  simp [za5]
theorem yl7 {w : World} {b off : Nat} {x : En} (h : w.rangeAt b off (enL x)) : ldA w (.pointer (some ⟨b, off + 2, none⟩)) 2 = some (vo x.v) := zcs h (zia x).1 (zia x).2 (zas _)
theorem yhf {w : World} {g : Nat} {t : TypeId} {fr : Nat × Nat} {x : En} (h : w.heap[g]? = some (.cells (en x) t fr)) : ldA w (.pointer (some ⟨g, 2, none⟩)) 2 = some (vo x.v) := by have := yl7 (x := x) (zah h); rwa [Nat.zero_add] at this
theorem zux (x : En) (y : Vo) : zat (en x) 2 (vo y) = en { x with v := y } := by
 rw [zau (c := en x) (zia x).1 (zia x).2 (by simp [zas])]
 simp [en, enL]
theorem zvp (x : En) : enL x = ((tr x.t).toList ++ [sv x.bal] ++ (vo x.v).toList) ++ ([sv x.w] ++ ([sv x.late] ++ ([sv x.k] ++ ([sv x.j] ++ ((cc x.fin).toList ++ ([num x.now])))))) ∧ ((tr x.t).toList ++ [sv x.bal] ++ (vo x.v).toList : List Value).length = 4 := by
 constructor
 ·
  unfold enL; simp
 ·
  simp [za5, zas]
theorem ynt {w : World} {b off : Nat} {x : En} (h : w.rangeAt b off (enL x)) : w.cell? ⟨b, off + 4, none⟩ = some (sv x.w) := zbd h (zvp x).1 (zvp x).2
theorem zot {w : World} {g : Nat} {t : TypeId} {fr : Nat × Nat} {x : En} (h : w.heap[g]? = some (.cells (en x) t fr)) : w.cell? ⟨g, 4, none⟩ = some (sv x.w) := by have := ynt (x := x) (zah h); rwa [Nat.zero_add] at this
theorem zv9 (x : En) (y : SlV) : zat (en x) 4 #[sv y] = en { x with w := y } := by
 rw [zau (c := en x) (r := #[sv y]) (zvp x).1 (zvp x).2 rfl]
 simp [en, enL]
theorem zjg (x : En) : enL x = ((tr x.t).toList ++ [sv x.bal] ++ (vo x.v).toList ++ [sv x.w]) ++ ([sv x.late] ++ ([sv x.k] ++ ([sv x.j] ++ ((cc x.fin).toList ++ ([num x.now]))))) ∧ ((tr x.t).toList ++ [sv x.bal] ++ (vo x.v).toList ++ [sv x.w] : List Value).length = 5 := by
 constructor
 ·
  unfold enL; simp
 ·
  simp [za5, zas]
theorem z62 {w : World} {b off : Nat} {x : En} (h : w.rangeAt b off (enL x)) : w.cell? ⟨b, off + 5, none⟩ = some (sv x.late) := zbd h (zjg x).1 (zjg x).2
theorem zj4 {w : World} {g : Nat} {t : TypeId} {fr : Nat × Nat} {x : En} (h : w.heap[g]? = some (.cells (en x) t fr)) : w.cell? ⟨g, 5, none⟩ = some (sv x.late) := by have := z62 (x := x) (zah h); rwa [Nat.zero_add] at this
theorem zrk (x : En) (y : SlV) : zat (en x) 5 #[sv y] = en { x with late := y } := by
 rw [zau (c := en x) (r := #[sv y]) (zjg x).1 (zjg x).2 rfl]
 simp [en, enL]
theorem zwe (x : En) : enL x = ((tr x.t).toList ++ [sv x.bal] ++ (vo x.v).toList ++ [sv x.w] ++ [sv x.late]) ++ ([sv x.k] ++ ([sv x.j] ++ ((cc x.fin).toList ++ ([num x.now])))) ∧ ((tr x.t).toList ++ [sv x.bal] ++ (vo x.v).toList ++ [sv x.w] ++ [sv x.late] : List Value).length = 6 := by
 constructor
 ·
  unfold enL; simp
 ·
  simp [za5, zas]
theorem ymz {w : World} {b off : Nat} {x : En} (h : w.rangeAt b off (enL x)) : w.cell? ⟨b, off + 6, none⟩ = some (sv x.k) := zbd h (zwe x).1 (zwe x).2
theorem zkz {w : World} {g : Nat} {t : TypeId} {fr : Nat × Nat} {x : En} (h : w.heap[g]? = some (.cells (en x) t fr)) : w.cell? ⟨g, 6, none⟩ = some (sv x.k) := by have := ymz (x := x) (zah h); rwa [Nat.zero_add] at this
theorem z24 (x : En) (y : SlV) : zat (en x) 6 #[sv y] = en { x with k := y } := by
 rw [zau (c := en x) (r := #[sv y]) (zwe x).1 (zwe x).2 rfl]
 simp [en, enL]
theorem zvl (x : En) : enL x = ((tr x.t).toList ++ [sv x.bal] ++ (vo x.v).toList ++ [sv x.w] ++ [sv x.late] ++ [sv x.k]) ++ ([sv x.j] ++ ((cc x.fin).toList ++ ([num x.now]))) ∧ ((tr x.t).toList ++ [sv x.bal] ++ (vo x.v).toList ++ [sv x.w] ++ [sv x.late] ++ [sv x.k] : List Value).length = 7 := by
 constructor
 ·
  unfold enL; simp
 ·
  simp [za5, zas]
theorem ymp {w : World} {b off : Nat} {x : En} (h : w.rangeAt b off (enL x)) : w.cell? ⟨b, off + 7, none⟩ = some (sv x.j) := zbd h (zvl x).1 (zvl x).2
theorem zld {w : World} {g : Nat} {t : TypeId} {fr : Nat × Nat} {x : En} (h : w.heap[g]? = some (.cells (en x) t fr)) : w.cell? ⟨g, 7, none⟩ = some (sv x.j) := by have := ymp (x := x) (zah h); rwa [Nat.zero_add] at this
theorem zuk (x : En) (y : SlV) : zat (en x) 7 #[sv y] = en { x with j := y } := by
 rw [zau (c := en x) (r := #[sv y]) (zvl x).1 (zvl x).2 rfl]
 simp [en, enL]
theorem zgz (x : En) : enL x = ((tr x.t).toList ++ [sv x.bal] ++ (vo x.v).toList ++ [sv x.w] ++ [sv x.late] ++ [sv x.k] ++ [sv x.j]) ++ ((cc x.fin).toList ++ ([num x.now])) ∧ ((tr x.t).toList ++ [sv x.bal] ++ (vo x.v).toList ++ [sv x.w] ++ [sv x.late] ++ [sv x.k] ++ [sv x.j] : List Value).length = 8 := by
 constructor
 ·
  unfold enL; simp
 ·
  simp [za5, zas]
theorem ydp {w : World} {b off : Nat} {x : En} (h : w.rangeAt b off (enL x)) : ldA w (.pointer (some ⟨b, off + 8, none⟩)) 33 = some (cc x.fin) := zcs h (zgz x).1 (zgz x).2 (zaw _)
theorem z7n {w : World} {g : Nat} {t : TypeId} {fr : Nat × Nat} {x : En} (h : w.heap[g]? = some (.cells (en x) t fr)) : ldA w (.pointer (some ⟨g, 8, none⟩)) 33 = some (cc x.fin) := by have := ydp (x := x) (zah h); rwa [Nat.zero_add] at this
theorem ztp (x : En) (y : Ck) : zat (en x) 8 (cc y) = en { x with fin := y } := by
 rw [zau (c := en x) (zgz x).1 (zgz x).2 (by simp [zaw])]
 simp [en, enL]
theorem zlh (x : En) : enL x = ((tr x.t).toList ++ [sv x.bal] ++ (vo x.v).toList ++ [sv x.w] ++ [sv x.late] ++ [sv x.k] ++ [sv x.j] ++ (cc x.fin).toList) ++ ([num x.now] ++ ([])) ∧ ((tr x.t).toList ++ [sv x.bal] ++ (vo x.v).toList ++ [sv x.w] ++ [sv x.late] ++ [sv x.k] ++ [sv x.j] ++ (cc x.fin).toList : List Value).length = 41 := by
 constructor
 ·
  unfold enL; simp
 ·
  simp [za5, zas, zaw]
theorem yba {w : World} {b off : Nat} {x : En} (h : w.rangeAt b off (enL x)) : w.cell? ⟨b, off + 41, none⟩ = some (num x.now) := zbd h (zlh x).1 (zlh x).2
theorem z8s {w : World} {g : Nat} {t : TypeId} {fr : Nat × Nat} {x : En} (h : w.heap[g]? = some (.cells (en x) t fr)) : w.cell? ⟨g, 41, none⟩ = some (num x.now) := by have := yba (x := x) (zah h); rwa [Nat.zero_add] at this
theorem zs9 (x : En) (y : UInt64) : zat (en x) 41 #[num y] = en { x with now := y } := by
 rw [zau (c := en x) (r := #[num y]) (zlh x).1 (zlh x).2 rfl]
 simp [en, enL]
theorem ylv {w : World} {b off : Nat} {x : En} (h : w.rangeAt b off (enL x)) : w.rangeAt b (off + 0) (trL x.t) := by
 rw [← zmp]; exact zc3 h (ziu x).1 (ziu x).2
theorem ylp (x : En) (o : Nat) (r : Array Value) (h : o + r.size ≤ 1) : zat (en x) (0 + o) r = zat (en x) 0 (zat (tr x.t) o r) := zzd (c := en x) (ziu x).1 (ziu x).2 (by rw [za5]; exact h)
theorem yac {w : World} {b off : Nat} {x : En} (h : w.rangeAt b off (enL x)) : w.cell? ⟨b, off + 0, none⟩ = some (sv x.t.n) := z1x (ylv h)
theorem zns {w : World} {g : Nat} {t : TypeId} {fr : Nat × Nat} {x : En} (h : w.heap[g]? = some (.cells (en x) t fr)) : w.cell? ⟨g, 0, none⟩ = some (sv x.t.n) := by have := yac (x := x) (zah h); rwa [Nat.zero_add] at this
theorem ztk (x : En) (y : SlV) : zat (en x) 0 #[sv y] = en { x with t := { x.t with n := y } } := by
 rw [show 0 = 0 + 0 from rfl, ylp x 0 _ (by simp), zl5, zt8]
attribute [go_sem] ztk
@[go_sem] theorem z7o (x : En) (y : SlV) : (en x).setIfInBounds 0 (sv y) = en { x with t := { x.t with n := y } } := by
 rw [za1 (by rw [zak]; decide)]; exact ztk x y
theorem yoc {w : World} {b off : Nat} {x : En} (h : w.rangeAt b off (enL x)) : w.rangeAt b (off + 2) (voL x.v) := by
 rw [← zut]; exact zc3 h (zia x).1 (zia x).2
theorem yox (x : En) (o : Nat) (r : Array Value) (h : o + r.size ≤ 2) : zat (en x) (2 + o) r = zat (en x) 2 (zat (vo x.v) o r) := zzd (c := en x) (zia x).1 (zia x).2 (by rw [zas]; exact h)
theorem z8w {w : World} {b off : Nat} {x : En} (h : w.rangeAt b off (enL x)) : w.cell? ⟨b, off + 2, none⟩ = some (sv x.v.l) := ybh (yoc h)
theorem zmg {w : World} {g : Nat} {t : TypeId} {fr : Nat × Nat} {x : En} (h : w.heap[g]? = some (.cells (en x) t fr)) : w.cell? ⟨g, 2, none⟩ = some (sv x.v.l) := by have := z8w (x := x) (zah h); rwa [Nat.zero_add] at this
theorem zs6 (x : En) (y : SlV) : zat (en x) 2 #[sv y] = en { x with v := { x.v with l := y } } := by
 rw [show 2 = 2 + 0 from rfl, yox x 0 _ (by simp), zo4, zux]
attribute [go_sem] zs6
@[go_sem] theorem z7h (x : En) (y : SlV) : (en x).setIfInBounds 2 (sv y) = en { x with v := { x.v with l := y } } := by
 rw [za1 (by rw [zak]; decide)]; exact zs6 x y
theorem zy2 {w : World} {b off : Nat} {x : En} (h : w.rangeAt b off (enL x)) : w.rangeAt b (off + 8) (ccL x.fin) := by
 rw [← zcj]; exact zc3 h (zgz x).1 (zgz x).2
theorem zqe {w : World} {b off : Nat} {x : En} (h : w.rangeAt b off (enL x)) : w.cell? ⟨b, off + 8, none⟩ = some (num x.fin.epoch) := zel (zy2 h)
theorem zhz {w : World} {g : Nat} {t : TypeId} {fr : Nat × Nat} {x : En} (h : w.heap[g]? = some (.cells (en x) t fr)) : w.cell? ⟨g, 8, none⟩ = some (num x.fin.epoch) := by have := zqe (x := x) (zah h); rwa [Nat.zero_add] at this
theorem zsf {w : World} {b off : Nat} {x : En} (h : w.rangeAt b off (enL x)) : ldA w (.pointer (some ⟨b, off + 9, none⟩)) 32 = some (rc x.fin.root) := zfu (zy2 h)
theorem zpd {w : World} {g : Nat} {t : TypeId} {fr : Nat × Nat} {x : En} (h : w.heap[g]? = some (.cells (en x) t fr)) : ldA w (.pointer (some ⟨g, 9, none⟩)) 32 = some (rc x.fin.root) := by have := zsf (x := x) (zah h); rwa [Nat.zero_add] at this
@[go_sem] theorem z6x (x : En) (y : SlV) : (en x).setIfInBounds 1 (sv y) = en { x with bal := y } := by
 rw [za1 (by rw [zak]; decide)]; exact zmx x y
@[go_sem] theorem zwf (x : En) (y : SlV) : (en x).setIfInBounds 4 (sv y) = en { x with w := y } := by
 rw [za1 (by rw [zak]; decide)]; exact zv9 x y
@[go_sem] theorem zrq (x : En) (y : SlV) : (en x).setIfInBounds 5 (sv y) = en { x with late := y } := by
 rw [za1 (by rw [zak]; decide)]; exact zrk x y
@[go_sem] theorem zum (x : En) (y : SlV) : (en x).setIfInBounds 6 (sv y) = en { x with k := y } := by
 rw [za1 (by rw [zak]; decide)]; exact z24 x y
@[go_sem] theorem zv8 (x : En) (y : SlV) : (en x).setIfInBounds 7 (sv y) = en { x with j := y } := by
 rw [za1 (by rw [zak]; decide)]; exact zuk x y
@[go_sem] theorem z8i (x : En) (y : UInt64) : (en x).setIfInBounds 41 (num y) = en { x with now := y } := by
 rw [za1 (by rw [zak]; decide)]; exact zs9 x y
attribute [go_sem] zt8 zmx zux zv9 zrk z24 zuk ztp zs9
@[go_sem] theorem yk7 (x : En) (p : Option Addr) (k c : Nat) : zat (en x) 1 #[.slice p k c] = en { x with bal := ⟨p, k, c⟩ } := zmx x ⟨p, k, c⟩
@[go_sem] theorem yrk (x : En) (p : Option Addr) (k c : Nat) : zat (en x) 4 #[.slice p k c] = en { x with w := ⟨p, k, c⟩ } := zv9 x ⟨p, k, c⟩
@[go_sem] theorem yp1 (x : En) (p : Option Addr) (k c : Nat) : zat (en x) 7 #[.slice p k c] = en { x with j := ⟨p, k, c⟩ } := zuk x ⟨p, k, c⟩
section
open Go.WideShapes Go.ChangeShapes
variable {H : Type} {enc : TypeId × Value → H} {w : World} {base : Nat} {sp : Nat → Bool} {held : Bool}
end
attribute [irreducible] en
end
section
variable {l : List Nd}
theorem zht (x : Nd) {i : Nat} (h : i < l.length) : nd (l ++ [x]) i = nd l i := by
 unfold nd
 simp only [List.getD_eq_getElem?_getD]
 rw [List.getElem?_append_left h]
theorem zv1 (x : Nd) : nd (l ++ [x]) l.length = x := by
 unfold nd
 simp
def posR (l : List Nd) (r : Rt) : Nat := l.findIdx fun n => decide (n.root = r)
def za2 (l : List Nd) (r : Rt) : Int := if MayT l ∧ posR l r < l.length then posR l r else -1
theorem ylm {r : Rt} (h : posR l r < l.length) : (nd l (posR l r)).root = r := by
 rw [zva l h]
 have : (fun n : Nd => decide (n.root = r)) (l[posR l r]'h) = true := List.findIdx_getElem (w := h)
 simpa using this
theorem z12 {r : Rt} {i : Nat} (hi : i < posR l r) (hl : i < l.length) : (nd l i).root ≠ r := by
 rw [zva l hl]
 have := List.not_of_lt_findIdx hi
 simpa using this
theorem zd9 (h : MayT l) (r : Rt) : (∃ i : Nat, i < l.length ∧ za2 l r = i ∧ (nd l i).root = r) ∨ (za2 l r = -1 ∧ ∀ i, i < l.length → (nd l i).root ≠ r) := by
 by_cases hp : posR l r < l.length
 ·
  exact .inl ⟨_, hp, by unfold za2; rw [if_pos ⟨h, hp⟩], ylm hp⟩
 ·
  exact .inr ⟨by unfold za2; rw [if_neg (fun e => hp e.2)], fun i hi => z12 (by omega) hi⟩
theorem zir (h : MayT l) {i : Nat} (hi : i < l.length) : za2 l (nd l i).root = i := by
 rcases zd9 h (nd l i).root with ⟨k, hk, e, hr⟩ | ⟨_, hn⟩
 ·
  rw [e, h.roots hk hi hr]
 ·
  exact absurd rfl (hn i hi)
theorem yi0 (h : ¬ MayT l) (r : Rt) : za2 l r = -1 := by unfold za2; rw [if_neg (fun e => h e.1)]
theorem ybc (r : Rt) : -1 ≤ za2 l r := by unfold za2; split <;> omega
def insE (l : List Nd) (r p : Rt) (s : UInt64) : Nat :=
 if ¬ MayT l then 1 else if 0 ≤ za2 l r then 4 else if za2 l p < 0 then 5 else if s.toNat ≤ sl l (za2 l p).toNat ∨ 1099511627776 < s.toNat then 6 else if l.length = 12 then 3 else 0
def insN (l : List Nd) (r p : Rt) (s j : UInt64) : Nd := ⟨r, za2 l p, s, j⟩
def insL (l : List Nd) (r p : Rt) (s j : UInt64) : List Nd := if insE l r p s = 0 then l ++ [insN l r p s j] else l
theorem zwq {r p : Rt} {s : UInt64} (h : insE l r p s = 0) : MayT l ∧ za2 l r = -1 ∧ (∃ q : Nat, za2 l p = q ∧ q < l.length ∧ (nd l q).root = p ∧ sl l q < s.toNat) ∧ s.toNat ≤ 1099511627776 ∧ l.length < 12 := by
 unfold insE at h
 split at h
 ·
  cases h
 ·
  rename_i hm
  have hm : MayT l := Classical.not_not.1 hm
  split at h
  ·
   cases h
  ·
   split at h
   ·
    cases h
   ·
    split at h
    ·
     cases h
    ·
     split at h
     ·
      cases h
     ·
      rename_i h1 h2 h3 h4
      rcases zd9 hm p with ⟨q, hq, e, hr⟩ | ⟨e, _⟩
      ·
       refine ⟨hm, ?_, ⟨q, e, hq, hr, ?_⟩, by omega, by have := hm.le; omega⟩
       ·
        have := ybc (l := l) r; omega
       ·
        rw [e] at h3
        have : (q : Int).toNat = q := by omega
        rw [this] at h3
        omega
      ·
       omega
theorem yhc (h : MayT l) {x : Nd} (hl : l.length < 12) (hs : x.slot.toNat ≤ 1099511627776) {q : Nat} (hq : q < l.length) (hp : x.parent = q) (hsl : sl l q < x.slot.toNat) (hr : ∀ i, i < l.length → (nd l i).root ≠ x.root) : MayT (l ++ [x]) := by
 refine ⟨by simp, by simp; omega, fun i hi => ?_⟩
 simp at hi
 by_cases e : i < l.length
 ·
  obtain ⟨h1, h2, h3, h4⟩ := h.2.2 i e
  refine ⟨?_, ?_, fun h0 => ?_, fun k hk => ?_⟩
  ·
   unfold sl; rw [zht x e]; exact h1
  ·
   rw [zht x e]; exact h2
  ·
   obtain ⟨a, b, c⟩ := h3 h0
   unfold up sl at *
   rw [zht x e]
   refine ⟨a, b, ?_⟩
   rw [zht x (show (nd l i).parent.toNat < l.length by omega)]
   exact c
  ·
   rw [zht x e, zht x (by omega)]; exact h4 k hk
 ·
  obtain rfl : i = l.length := by omega
  refine ⟨?_, fun h0 => ?_, fun _ => ?_, fun k hk => ?_⟩
  ·
   unfold sl; rw [zv1]; exact hs
  ·
   have := h.pos; omega
  ·
   unfold up sl
   rw [zv1, hp]
   refine ⟨by omega, by omega, ?_⟩
   rw [show (q : Int).toNat = q by omega, zht x hq]
   exact hsl
  ·
   rw [zv1, zht x hk]; exact hr k hk
theorem ybt {r p : Rt} {s : UInt64} (j : UInt64) (h : insE l r p s = 0) : MayT (l ++ [insN l r p s j]) := by
 obtain ⟨hm, hr, ⟨q, e, hq, _, hsl⟩, hs, hl⟩ := zwq h
 refine yhc hm hl hs hq e hsl fun i hi he => ?_
 have := zir hm hi
 rw [he] at this
 have : za2 l r = i := this
 omega
theorem ych {r p : Rt} {s : UInt64} (j : UInt64) (h : insE l r p s = 0) : insE (l ++ [insN l r p s j]) r p s = 4 ∧ za2 (l ++ [insN l r p s j]) r = l.length := by
 have hm := ybt j h
 have hf : za2 (l ++ [insN l r p s j]) r = l.length := by
  have := zir hm (i := l.length) (by simp)
  rw [zv1] at this
  exact this
 refine ⟨?_, hf⟩
 unfold insE
 rw [if_neg (Classical.not_not.2 hm), if_pos (by rw [hf]; omega)]
end
end Go.Proofs.YtmihlihlpdkdcaaGreat
