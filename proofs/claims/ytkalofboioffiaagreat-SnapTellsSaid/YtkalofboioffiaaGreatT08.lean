import Derived.Test.YtkalofboioffiaaGreatT07
namespace Go.Proofs.YtkalofboioffiaaGreat
open Go.RowKit
set_option maxRecDepth 200000
set_option maxHeartbeats 64000000
section
open Go.RowKit
theorem yfs : (Tryz.prog.info? 113).map (fun i => (i.zero, i.size, i.bytes)) = some (some (.agg (aa zaa)), 100, 128) := by kernel_rfl
theorem Kaa : Known Tryz.prog Eaa 30 := ⟨Tryz.underlying30, .agg (aa zaa), 128, yfs, by show ((aa zaa)).size = _; exact zl8 _, by decide⟩
@[go_sem ↓] theorem z9n (ρ : Operand → Value) (dst : Option Tmp) (x : Operand) (ty : TypeId) (pos : String) (after : Array Edge) (guard : Option (Nat × Bool)) (w : World) (hx : okA 100 (ρ x) = true) :
  (execOp ρ { dst, op := .buildSlice 30 1 #[(0, x)], type := ty, pos, after, guard }).run Tryz.prog w = .ok (.value (.slice (some ⟨w.heap.size, 0, none⟩) 1 1)) (w.alloc (.cells (ze4 (ρ x)) 113)) := by
 obtain ⟨c, hc, hn⟩ : ∃ c, ρ x = .agg c ∧ c.size = 100 := by
  unfold okA at hx
  split at hx
  ·
   rename_i c hc
   rw [Bool.and_eq_true, beq_iff_eq] at hx
   exact ⟨c, hc, hx.1⟩
  ·
   cases hx
 have hp : (1 * 100 > 2 ^ 24) = False := by simp
 have h0 : (1 * 100 = 0) = False := by simp
 unfold execOp
 simp only [Instr.buildSlice, Sem.run_bind, run_underlying Tryz.underlying30, Result.andThen_ok, Tryz.sizeOf113, hp, h0, if_false, z8v, Value.cells]
 simp only [List.map_toArray, List.map_cons, List.map_nil, hc, Instr.fill, Value.cells, hn, Nat.zero_mul]
 simp [ze4]
 rw [zgx _ c (by simp [hn])]
 rfl
section
open Go.WideShapes Go.ChangeShapes
variable {H : Type} {enc : TypeId × Value → H} {w : World} {base : Nat} {sp : Nat → Bool} {held : Bool}
theorem z9t {fuel : Nat} {v : Value} {x : DataW H × List MemPlace} (h : DataW.trod enc Tryz.prog w base sp held fuel 30 [v] = some x) : ∃ l : List Aa, SlE Eaa w v l :=
 zh6 Tryz.underlying30 zpd (fun _ cs _ h => z9y (by obtain ⟨_, _, _, _, hl, _⟩ := DataW.trod_struct zhq h; rw [hl, zpd]) h) h
theorem z39 {fuel : Nat} {cs : List Value} {x : DataW H × List MemPlace} (h : DataW.trod enc Tryz.prog w base sp held fuel 30 cs = some x) : ∃ s : SlV, cs = [sv s] ∧ ∃ l : List Aa, SlE Eaa w (sv s) l := by
 rcases Deep.open_slice Tryz.underlying30 h with ⟨h1, _⟩ | ⟨a', len', cap', _, _, _, _, h1, _⟩
 ·
  subst h1
  exact ⟨⟨none, 0, 0⟩, rfl, [], zbg _ _ _ _⟩
 ·
  subst h1
  exact ⟨⟨some a', len', cap'⟩, rfl, z9t h⟩
end
end
section
open Go.RowKit
theorem z5n : (Tryz.prog.info? 36).map (fun i => (i.zero, i.size, i.bytes)) = some (some (.agg (cc zcc)), 33, 40) := by kernel_rfl
theorem Kcc : Known Tryz.prog Ecc 32 := ⟨Tryz.underlying32, .agg (cc zcc), 40, z5n, by show ((cc zcc)).size = _; exact zax _, by decide⟩
@[go_sem ↓] theorem yco (ρ : Operand → Value) (dst : Option Tmp) (x lo : Operand) (ty : TypeId) (pos : String) (after : Array Edge) (guard : Option (Nat × Bool)) (w : World) :
  (execOp ρ { dst, op := .slice 32 x (some lo) none none, type := ty, pos, after, guard }).run Tryz.prog w = zgh (z4m 33 (ρ x) (ρ lo)) w (zbf Tryz.prog ρ { dst, op := .slice 32 x (some lo) none none, type := ty, pos, after, guard } w) :=
 zuz Tryz.underlying32 Tryz.sizeOf36 ρ dst x lo ty pos after guard w
section
open Go.WideShapes Go.ChangeShapes
variable {H : Type} {enc : TypeId × Value → H} {w : World} {base : Nat} {sp : Nat → Bool} {held : Bool}
theorem z9u {fuel : Nat} {v : Value} {x : DataW H × List MemPlace} (h : DataW.trod enc Tryz.prog w base sp held fuel 32 [v] = some x) : ∃ l : List Ck, SlE Ecc w v l :=
 zh6 Tryz.underlying32 zbw (fun _ cs _ h => ze5 (by obtain ⟨_, _, _, _, hl, _⟩ := DataW.trod_struct zge h; rw [hl, zbw]) h) h
theorem z4c {fuel : Nat} {cs : List Value} {x : DataW H × List MemPlace} (h : DataW.trod enc Tryz.prog w base sp held fuel 32 cs = some x) : ∃ s : SlV, cs = [sv s] ∧ ∃ l : List Ck, SlE Ecc w (sv s) l := by
 rcases Deep.open_slice Tryz.underlying32 h with ⟨h1, _⟩ | ⟨a', len', cap', _, _, _, _, h1, _⟩
 ·
  subst h1
  exact ⟨⟨none, 0, 0⟩, rfl, [], zbg _ _ _ _⟩
 ·
  subst h1
  exact ⟨⟨some a', len', cap'⟩, rfl, z9u h⟩
end
end
section
open Go.RowKit
def lkL (x : Lk) : List Value := (cc x.s).toList ++ ((cc x.t).toList ++ ([num x.mask]))
def lk (x : Lk) : Array Value := (lkL x).toArray
theorem zwg (x : Lk) : (lk x).toList = lkL x := rfl
theorem ydo (x : Lk) : (lkL x).length = 67 := by simp [lkL, zax]
theorem zni (x : Lk) : (lk x).size = 67 := by rw [← Array.length_toList, zwg, ydo]
theorem ydp (x : Lk) : ∀ v ∈ lkL x, v.oneCell' = true := by
 intro v hv
 unfold lkL at hv
 simp only [List.mem_append, List.mem_singleton] at hv
 rcases hv with hv | hv | rfl
 ·
  exact zfk _ v (by rw [zbm] at hv; exact hv)
 ·
  exact zfk _ v (by rw [zbm] at hv; exact hv)
 ·
  rfl
@[go_sem] theorem ymu (x : Lk) : okA 67 (.agg (lk x)) = true := by
 show ((lk x).size == 67 && (lk x).all (·.oneCell')) = true
 rw [show (lk x).all (·.oneCell') = true from zdo (ydp x), zni]; rfl
def zlk : Lk := ⟨zcc, zcc, 0⟩
theorem z80 (w : World) : (zeroValue 118).run Tryz.prog w = .ok (.agg (lk zlk)) w := by kernel_rfl
@[go_sem ↓] theorem yl2 (ρ : Operand → Value) (dst : Option Tmp) (x : Operand) (ty : TypeId) (pos : String) (after : Array Edge) (guard : Option (Nat × Bool)) (w : World) :
  (execOp ρ { dst, op := .load 118 x, type := ty, pos, after, guard }).run Tryz.prog w = zi5 (ldA w (ρ x) 67) w (zbf Tryz.prog ρ { dst, op := .load 118 x, type := ty, pos, after, guard } w) :=
 zbq Tryz.isAgg118 Tryz.sizeOf118 ρ dst x ty pos after guard w
@[go_sem ↓] theorem yk8 (ρ : Operand → Value) (dst : Option Tmp) (x y : Operand) (ty : TypeId) (pos : String) (after : Array Edge) (guard : Option (Nat × Bool)) (w : World) :
  (execOp ρ { dst, op := .store 118 x y, type := ty, pos, after, guard }).run Tryz.prog w = zhv (wrA w (ρ x) 67 && okA 67 (ρ y)) (stA w (ρ x) (ρ y)) (zbf Tryz.prog ρ { dst, op := .store 118 x y, type := ty, pos, after, guard } w) :=
 zbe Tryz.sizeOf118 ρ dst x y ty pos after guard w
@[go_sem ↓] theorem yki (ρ : Operand → Value) (dst : Option Tmp) (ty : TypeId) (pos : String) (after : Array Edge) (guard : Option (Nat × Bool)) (w : World) :
  (execOp ρ { dst, op := .alloc 118, type := ty, pos, after, guard }).run Tryz.prog w = .ok (.value (.pointer (some ⟨w.heap.size, 0, none⟩))) (w.alloc (.cells (lk zlk) 118)) := by
 unfold execOp
 simp only [Instr.alloc, Sem.run_bind, z80, Result.andThen_ok]
 rfl
theorem zl1 : Tryz.prog.underlying 118 = some (.struct (Tryz.prog.fieldsOf 118)) := by kernel_rfl
theorem zv5 : (Tryz.prog.fieldsOf 118).toList.map (fun f => (f.name, f.type, f.offset)) = [("S", 36, 0), ("T", 36, 33), ("Mask", 27, 66)] := by kernel_rfl
attribute [go_sem] zni
theorem zrd (x : Lk) : lkL x = ([]) ++ ((cc x.s).toList ++ ((cc x.t).toList ++ ([num x.mask]))) ∧ ([] : List Value).length = 0 := by
 constructor
 ·
  unfold lkL; simp
 ·
  rfl
theorem z52 {w : World} {b off : Nat} {x : Lk} (h : w.rangeAt b off (lkL x)) : ldA w (.pointer (some ⟨b, off + 0, none⟩)) 33 = some (cc x.s) := zb8 h (zrd x).1 (zrd x).2 (zax _)
theorem ya6 {w : World} {g : Nat} {t : TypeId} {fr : Nat × Nat} {x : Lk} (h : w.heap[g]? = some (.cells (lk x) t fr)) : ldA w (.pointer (some ⟨g, 0, none⟩)) 33 = some (cc x.s) := by have := z52 (x := x) (zak h); rwa [Nat.zero_add] at this
theorem zre (x : Lk) : lkL x = ((cc x.s).toList) ++ ((cc x.t).toList ++ ([num x.mask])) ∧ ((cc x.s).toList : List Value).length = 33 := by
 constructor
 ·
  unfold lkL; simp
 ·
  simp [zax]
theorem z53 {w : World} {b off : Nat} {x : Lk} (h : w.rangeAt b off (lkL x)) : ldA w (.pointer (some ⟨b, off + 33, none⟩)) 33 = some (cc x.t) := zb8 h (zre x).1 (zre x).2 (zax _)
theorem ya7 {w : World} {g : Nat} {t : TypeId} {fr : Nat × Nat} {x : Lk} (h : w.heap[g]? = some (.cells (lk x) t fr)) : ldA w (.pointer (some ⟨g, 33, none⟩)) 33 = some (cc x.t) := by have := z53 (x := x) (zak h); rwa [Nat.zero_add] at this
theorem zp3 (x : Lk) : lkL x = ((cc x.s).toList ++ (cc x.t).toList) ++ ([num x.mask] ++ ([])) ∧ ((cc x.s).toList ++ (cc x.t).toList : List Value).length = 66 := by
 constructor
 ·
  unfold lkL; simp
 ·
  simp [zax]
theorem zp4 {w : World} {b off : Nat} {x : Lk} (h : w.rangeAt b off (lkL x)) : w.cell? ⟨b, off + 66, none⟩ = some (num x.mask) := zbj h (zp3 x).1 (zp3 x).2
theorem zwh {w : World} {g : Nat} {t : TypeId} {fr : Nat × Nat} {x : Lk} (h : w.heap[g]? = some (.cells (lk x) t fr)) : w.cell? ⟨g, 66, none⟩ = some (num x.mask) := by have := zp4 (x := x) (zak h); rwa [Nat.zero_add] at this
theorem z54 {w : World} {b off : Nat} {x : Lk} (h : w.rangeAt b off (lkL x)) : w.rangeAt b (off + 0) (ccL x.s) := by
 rw [← zbm]; exact zci h (zrd x).1 (zrd x).2
theorem zi7 {w : World} {b off : Nat} {x : Lk} (h : w.rangeAt b off (lkL x)) : w.cell? ⟨b, off + 0, none⟩ = some (num x.s.epoch) := zfy (z54 h)
theorem zox {w : World} {g : Nat} {t : TypeId} {fr : Nat × Nat} {x : Lk} (h : w.heap[g]? = some (.cells (lk x) t fr)) : w.cell? ⟨g, 0, none⟩ = some (num x.s.epoch) := by have := zi7 (x := x) (zak h); rwa [Nat.zero_add] at this
theorem zky {w : World} {b off : Nat} {x : Lk} (h : w.rangeAt b off (lkL x)) : ldA w (.pointer (some ⟨b, off + 1, none⟩)) 32 = some (rc x.s.root) := zc6 (z54 h)
theorem zrf {w : World} {g : Nat} {t : TypeId} {fr : Nat × Nat} {x : Lk} (h : w.heap[g]? = some (.cells (lk x) t fr)) : ldA w (.pointer (some ⟨g, 1, none⟩)) 32 = some (rc x.s.root) := by have := zky (x := x) (zak h); rwa [Nat.zero_add] at this
theorem z55 {w : World} {b off : Nat} {x : Lk} (h : w.rangeAt b off (lkL x)) : w.rangeAt b (off + 33) (ccL x.t) := by
 rw [← zbm]; exact zci h (zre x).1 (zre x).2
theorem zi8 {w : World} {b off : Nat} {x : Lk} (h : w.rangeAt b off (lkL x)) : w.cell? ⟨b, off + 33, none⟩ = some (num x.t.epoch) := zfy (z55 h)
theorem zoy {w : World} {g : Nat} {t : TypeId} {fr : Nat × Nat} {x : Lk} (h : w.heap[g]? = some (.cells (lk x) t fr)) : w.cell? ⟨g, 33, none⟩ = some (num x.t.epoch) := by have := zi8 (x := x) (zak h); rwa [Nat.zero_add] at this
theorem zkz {w : World} {b off : Nat} {x : Lk} (h : w.rangeAt b off (lkL x)) : ldA w (.pointer (some ⟨b, off + 34, none⟩)) 32 = some (rc x.t.root) := zc6 (z55 h)
theorem zrg {w : World} {g : Nat} {t : TypeId} {fr : Nat × Nat} {x : Lk} (h : w.heap[g]? = some (.cells (lk x) t fr)) : ldA w (.pointer (some ⟨g, 34, none⟩)) 32 = some (rc x.t.root) := by have := zkz (x := x) (zak h); rwa [Nat.zero_add] at this
theorem zpf : Tryz.prog.cellsOf 118 = 67 := by kernel_rfl
section
open Go.WideShapes Go.ChangeShapes
variable {H : Type} {enc : TypeId × Value → H} {w : World} {base : Nat} {sp : Nat → Bool} {held : Bool}
theorem z91 {fuel : Nat} {cs : List Value} {x : DataW H × List MemPlace} (hl : cs.length = 67) (h : DataW.trod enc Tryz.prog w base sp held fuel 118 cs = some x) : ∃ a : Lk, cs = lkL a := by
 obtain ⟨_, _, h0⟩ := zav (i := 0) zl1 zv5 rfl h
 rw [zbw] at h0
 obtain ⟨a0, e0⟩ := ze5 (by rw [List.length_take, List.length_drop]; omega) h0
 rw [← zbm] at e0
 obtain ⟨_, _, h1⟩ := zav (i := 1) zl1 zv5 rfl h
 rw [zbw] at h1
 obtain ⟨a1, e1⟩ := ze5 (by rw [List.length_take, List.length_drop]; omega) h1
 rw [← zbm] at e1
 obtain ⟨_, _, h2⟩ := zav (i := 2) zl1 zv5 rfl h
 rw [zb9] at h2
 obtain ⟨a2, e2⟩ := zcy h2
 refine ⟨⟨a0, a1, a2⟩, ?_⟩
 unfold lkL
 have j0 := za9 cs 0 33
 rw [e0] at j0
 have j1 := za9 cs 33 33
 rw [e1] at j1
 have j2 := za9 cs 66 1
 rw [e2] at j2
 have jl : cs.drop 67 = [] := List.drop_of_length_le (by omega)
 rw [show (66 + 1) = 67 from rfl, jl, List.append_nil] at j2
 rw [← List.drop_zero (l := cs)]
 rw [← j0]
 rw [show cs.drop (0 + 33) = cs.drop 33 from rfl, ← j1]
 rw [show cs.drop (33 + 33) = cs.drop 66 from rfl, ← j2]
 try rfl
end
def Elk : Lie Lk := ⟨118, 67, lkL, by decide, ydo, ydp⟩
attribute [irreducible] lk
end
section
open Go.RowKit
theorem z5o : (Tryz.prog.info? 118).map (fun i => (i.zero, i.size, i.bytes)) = some (some (.agg (lk zlk)), 67, 88) := by kernel_rfl
theorem Klk : Known Tryz.prog Elk 31 := ⟨Tryz.underlying31, .agg (lk zlk), 88, z5o, by show ((lk zlk)).size = _; exact zni _, by decide⟩
@[go_sem ↓] theorem z9p (ρ : Operand → Value) (dst : Option Tmp) (x : Operand) (ty : TypeId) (pos : String) (after : Array Edge) (guard : Option (Nat × Bool)) (w : World) (hx : okA 67 (ρ x) = true) :
  (execOp ρ { dst, op := .buildSlice 31 1 #[(0, x)], type := ty, pos, after, guard }).run Tryz.prog w = .ok (.value (.slice (some ⟨w.heap.size, 0, none⟩) 1 1)) (w.alloc (.cells (ze4 (ρ x)) 118)) := by
 obtain ⟨c, hc, hn⟩ : ∃ c, ρ x = .agg c ∧ c.size = 67 := by
  unfold okA at hx
  split at hx
  ·
   rename_i c hc
   rw [Bool.and_eq_true, beq_iff_eq] at hx
   exact ⟨c, hc, hx.1⟩
  ·
   cases hx
 have hp : (1 * 67 > 2 ^ 24) = False := by simp
 have h0 : (1 * 67 = 0) = False := by simp
 unfold execOp
 simp only [Instr.buildSlice, Sem.run_bind, run_underlying Tryz.underlying31, Result.andThen_ok, Tryz.sizeOf118, hp, h0, if_false, z80, Value.cells]
 simp only [List.map_toArray, List.map_cons, List.map_nil, hc, Instr.fill, Value.cells, hn, Nat.zero_mul]
 simp [ze4]
 rw [zgx _ c (by simp [hn])]
 rfl
section
open Go.WideShapes Go.ChangeShapes
variable {H : Type} {enc : TypeId × Value → H} {w : World} {base : Nat} {sp : Nat → Bool} {held : Bool}
theorem z9v {fuel : Nat} {v : Value} {x : DataW H × List MemPlace} (h : DataW.trod enc Tryz.prog w base sp held fuel 31 [v] = some x) : ∃ l : List Lk, SlE Elk w v l :=
 zh6 Tryz.underlying31 zpf (fun _ cs _ h => z91 (by obtain ⟨_, _, _, _, hl, _⟩ := DataW.trod_struct zl1 h; rw [hl, zpf]) h) h
theorem z4d {fuel : Nat} {cs : List Value} {x : DataW H × List MemPlace} (h : DataW.trod enc Tryz.prog w base sp held fuel 31 cs = some x) : ∃ s : SlV, cs = [sv s] ∧ ∃ l : List Lk, SlE Elk w (sv s) l := by
 rcases Deep.open_slice Tryz.underlying31 h with ⟨h1, _⟩ | ⟨a', len', cap', _, _, _, _, h1, _⟩
 ·
  subst h1
  exact ⟨⟨none, 0, 0⟩, rfl, [], zbg _ _ _ _⟩
 ·
  subst h1
  exact ⟨⟨some a', len', cap'⟩, rfl, z9v h⟩
end
end
section
open Go.RowKit
theorem zq7 : (Tryz.prog.info? 27).map (fun i => (i.zero, i.size, i.bytes)) = some (some (num 0), 1, 8) := by kernel_rfl
theorem Knum : Known Tryz.prog Enum 25 := ⟨Tryz.underlying25, num 0, 8, zq7, rfl, by decide⟩
section
open Go.WideShapes Go.ChangeShapes
variable {H : Type} {enc : TypeId × Value → H} {w : World} {base : Nat} {sp : Nat → Bool} {held : Bool}
theorem z38 {fuel : Nat} {v : Value} {x : DataW H × List MemPlace} (h : DataW.trod enc Tryz.prog w base sp held fuel 25 [v] = some x) : ∃ l : List UInt64, SlE Enum w v l :=
 zh6 Tryz.underlying25 zb9 (fun _ _ _ h => zcy h) h
theorem zpj {fuel : Nat} {cs : List Value} {x : DataW H × List MemPlace} (h : DataW.trod enc Tryz.prog w base sp held fuel 25 cs = some x) : ∃ s : SlV, cs = [sv s] ∧ ∃ l : List UInt64, SlE Enum w (sv s) l := by
 rcases Deep.open_slice Tryz.underlying25 h with ⟨h1, _⟩ | ⟨a', len', cap', _, _, _, _, h1, _⟩
 ·
  subst h1
  exact ⟨⟨none, 0, 0⟩, rfl, [], zbg _ _ _ _⟩
 ·
  subst h1
  exact ⟨⟨some a', len', cap'⟩, rfl, z38 h⟩
end
end
section
open Go.RowKit
structure En where
 t : Tr
 bal : SlV
 v : Vo
 w : SlV
 late : SlV
 k : SlV
 j : SlV
 fin : Ck
 now : UInt64
def enL (x : En) : List Value := (tr x.t).toList ++ ([sv x.bal] ++ ((vo x.v).toList ++ ([sv x.w] ++ ([sv x.late] ++ ([sv x.k] ++ ([sv x.j] ++ ((cc x.fin).toList ++ ([num x.now]))))))))
def en (x : En) : Array Value := (enL x).toArray
theorem z4t (x : En) : (en x).toList = enL x := rfl
theorem yil (x : En) : (enL x).length = 42 := by simp [enL, zbn, zcp, zax]
theorem zd4 (x : En) : (en x).size = 42 := by rw [← Array.length_toList, z4t, yil]
theorem yim (x : En) : ∀ v ∈ enL x, v.oneCell' = true := by
 intro v hv
 unfold enL at hv
 simp only [List.mem_append, List.mem_singleton] at hv
 rcases hv with hv | rfl | hv | rfl | rfl | rfl | rfl | hv | rfl
 ·
  exact zzw _ v (by rw [zgd] at hv; exact hv)
 ·
  rfl
 ·
  exact yea _ v (by rw [zso] at hv; exact hv)
 ·
  rfl
 ·
  rfl
 ·
  rfl
 ·
  rfl
 ·
  exact zfk _ v (by rw [zbm] at hv; exact hv)
 ·
  rfl
@[go_sem] theorem ymt (x : En) : okA 42 (.agg (en x)) = true := by
 show ((en x).size == 42 && (en x).all (·.oneCell')) = true
 rw [show (en x).all (·.oneCell') = true from zdo (yim x), zd4]; rfl
def zen : En := ⟨ztr, ⟨none, 0, 0⟩, zvo, ⟨none, 0, 0⟩, ⟨none, 0, 0⟩, ⟨none, 0, 0⟩, ⟨none, 0, 0⟩, zcc, 0⟩
theorem zx3 (w : World) : (zeroValue 38).run Tryz.prog w = .ok (.agg (en zen)) w := by kernel_rfl
@[go_sem ↓] theorem yl1 (ρ : Operand → Value) (dst : Option Tmp) (x : Operand) (ty : TypeId) (pos : String) (after : Array Edge) (guard : Option (Nat × Bool)) (w : World) :
  (execOp ρ { dst, op := .load 38 x, type := ty, pos, after, guard }).run Tryz.prog w = zi5 (ldA w (ρ x) 42) w (zbf Tryz.prog ρ { dst, op := .load 38 x, type := ty, pos, after, guard } w) :=
 zbq Tryz.isAgg38 Tryz.sizeOf38 ρ dst x ty pos after guard w
@[go_sem ↓] theorem yk7 (ρ : Operand → Value) (dst : Option Tmp) (x y : Operand) (ty : TypeId) (pos : String) (after : Array Edge) (guard : Option (Nat × Bool)) (w : World) :
  (execOp ρ { dst, op := .store 38 x y, type := ty, pos, after, guard }).run Tryz.prog w = zhv (wrA w (ρ x) 42 && okA 42 (ρ y)) (stA w (ρ x) (ρ y)) (zbf Tryz.prog ρ { dst, op := .store 38 x y, type := ty, pos, after, guard } w) :=
 zbe Tryz.sizeOf38 ρ dst x y ty pos after guard w
@[go_sem ↓] theorem ykh (ρ : Operand → Value) (dst : Option Tmp) (ty : TypeId) (pos : String) (after : Array Edge) (guard : Option (Nat × Bool)) (w : World) :
  (execOp ρ { dst, op := .alloc 38, type := ty, pos, after, guard }).run Tryz.prog w = .ok (.value (.pointer (some ⟨w.heap.size, 0, none⟩))) (w.alloc (.cells (en zen) 38)) := by
 unfold execOp
 simp only [Instr.alloc, Sem.run_bind, zx3, Result.andThen_ok]
 rfl
def places_en : List (Nat × Nat) := [(0, 1), (1, 1), (2, 2), (4, 1), (5, 1), (6, 1), (7, 1), (8, 33), (41, 1)]
theorem zs6 : ∀ w : World, ((Tryz.prog.fieldsOf 38).mapM (m := Sem) fun f => do pure (f.offset, ← Go.sizeOf f.type)).run Tryz.prog w = .ok places_en.toArray w := fun _ => by kernel_rfl
theorem zc0 : Tryz.prog.underlying 38 = some (.struct (Tryz.prog.fieldsOf 38)) := by kernel_rfl
theorem zf1 : (Tryz.prog.fieldsOf 38).toList.map (fun f => (f.name, f.type, f.offset)) = [("T", 24, 0), ("Bal", 25, 1), ("V", 29, 2), ("W", 25, 4), ("Late", 30, 5), ("K", 31, 6), ("J", 32, 7), ("Fin", 36, 8), ("Now", 27, 41)] := by kernel_rfl
@[go_sem ↓] theorem yku (ρ : Operand → Value) (dst : Option Tmp) (p : Nat × Operand) (ps : List (Nat × Operand)) (ty : TypeId) (pos : String) (after : Array Edge) (guard : Option (Nat × Bool)) (w : World) :
  (execOp ρ { dst, op := .build 38 (p :: ps).toArray, type := ty, pos, after, guard }).run Tryz.prog w = zgh ((zgp places_en (en zen) ((p.1, ρ p.2) :: ps.map fun p => (p.1, ρ p.2))).map .agg) w (zbf Tryz.prog ρ { dst, op := .build 38 (p :: ps).toArray, type := ty, pos, after, guard } w) :=
 zbv zx3 zc0 zs6 ρ dst (p :: ps).toArray ty pos after guard w
@[go_sem ↓] theorem yh7 (ρ : Operand → Value) (dst : Option Tmp) (ty : TypeId) (pos : String) (after : Array Edge) (guard : Option (Nat × Bool)) (w : World) :
  (execOp ρ { dst, op := .build 38 #[], type := ty, pos, after, guard }).run Tryz.prog w = .ok (.value (.agg (en zen))) w :=
 zbv zx3 zc0 zs6 ρ dst #[] ty pos after guard w
attribute [go_sem] places_en zd4
theorem zj6 (x : En) : enL x = ([]) ++ ((tr x.t).toList ++ ([sv x.bal] ++ ((vo x.v).toList ++ ([sv x.w] ++ ([sv x.late] ++ ([sv x.k] ++ ([sv x.j] ++ ((cc x.fin).toList ++ ([num x.now]))))))))) ∧ ([] : List Value).length = 0 := by
 constructor
 ·
  unfold enL; simp
 ·
  rfl
theorem ye3 {w : World} {b off : Nat} {x : En} (h : w.rangeAt b off (enL x)) : ldA w (.pointer (some ⟨b, off + 0, none⟩)) 1 = some (tr x.t) := zb8 h (zj6 x).1 (zj6 x).2 (zbn _)
theorem yam {w : World} {g : Nat} {t : TypeId} {fr : Nat × Nat} {x : En} (h : w.heap[g]? = some (.cells (en x) t fr)) : ldA w (.pointer (some ⟨g, 0, none⟩)) 1 = some (tr x.t) := by have := ye3 (x := x) (zak h); rwa [Nat.zero_add] at this
theorem yai (x : En) (y : Tr) : zba (en x) 0 (tr y) = en { x with t := y } := by
 rw [za6 (c := en x) (zj6 x).1 (zj6 x).2 (by simp [zbn])]
 simp [en, enL]
theorem ziu (x : En) : enL x = ((tr x.t).toList) ++ ([sv x.bal] ++ ((vo x.v).toList ++ ([sv x.w] ++ ([sv x.late] ++ ([sv x.k] ++ ([sv x.j] ++ ((cc x.fin).toList ++ ([num x.now])))))))) ∧ ((tr x.t).toList : List Value).length = 1 := by
 constructor
 ·
  unfold enL; simp
 ·
  simp [zbn]
theorem z4u {w : World} {b off : Nat} {x : En} (h : w.rangeAt b off (enL x)) : w.cell? ⟨b, off + 1, none⟩ = some (sv x.bal) := zbj h (ziu x).1 (ziu x).2
theorem z0r {w : World} {g : Nat} {t : TypeId} {fr : Nat × Nat} {x : En} (h : w.heap[g]? = some (.cells (en x) t fr)) : w.cell? ⟨g, 1, none⟩ = some (sv x.bal) := by have := z4u (x := x) (zak h); rwa [Nat.zero_add] at this
theorem zpn (x : En) (y : SlV) : zba (en x) 1 #[sv y] = en { x with bal := y } := by
 rw [za6 (c := en x) (r := #[sv y]) (ziu x).1 (ziu x).2 rfl]
 simp [en, enL]
theorem zj7 (x : En) : enL x = ((tr x.t).toList ++ [sv x.bal]) ++ ((vo x.v).toList ++ ([sv x.w] ++ ([sv x.late] ++ ([sv x.k] ++ ([sv x.j] ++ ((cc x.fin).toList ++ ([num x.now]))))))) ∧ ((tr x.t).toList ++ [sv x.bal] : List Value).length = 2 := by
 constructor
 ·
  unfold enL; simp
 ·
  simp [zbn]
theorem ye4 {w : World} {b off : Nat} {x : En} (h : w.rangeAt b off (enL x)) : ldA w (.pointer (some ⟨b, off + 2, none⟩)) 2 = some (vo x.v) := zb8 h (zj7 x).1 (zj7 x).2 (zcp _)
theorem yan {w : World} {g : Nat} {t : TypeId} {fr : Nat × Nat} {x : En} (h : w.heap[g]? = some (.cells (en x) t fr)) : ldA w (.pointer (some ⟨g, 2, none⟩)) 2 = some (vo x.v) := by have := ye4 (x := x) (zak h); rwa [Nat.zero_add] at this
theorem yaj (x : En) (y : Vo) : zba (en x) 2 (vo y) = en { x with v := y } := by
 rw [za6 (c := en x) (zj7 x).1 (zj7 x).2 (by simp [zcp])]
 simp [en, enL]
theorem zqy (x : En) : enL x = ((tr x.t).toList ++ [sv x.bal] ++ (vo x.v).toList) ++ ([sv x.w] ++ ([sv x.late] ++ ([sv x.k] ++ ([sv x.j] ++ ((cc x.fin).toList ++ ([num x.now])))))) ∧ ((tr x.t).toList ++ [sv x.bal] ++ (vo x.v).toList : List Value).length = 4 := by
 constructor
 ·
  unfold enL; simp
 ·
  simp [zbn, zcp]
theorem ye5 {w : World} {b off : Nat} {x : En} (h : w.rangeAt b off (enL x)) : w.cell? ⟨b, off + 4, none⟩ = some (sv x.w) := zbj h (zqy x).1 (zqy x).2
theorem yao {w : World} {g : Nat} {t : TypeId} {fr : Nat × Nat} {x : En} (h : w.heap[g]? = some (.cells (en x) t fr)) : w.cell? ⟨g, 4, none⟩ = some (sv x.w) := by have := ye5 (x := x) (zak h); rwa [Nat.zero_add] at this
theorem zyl (x : En) (y : SlV) : zba (en x) 4 #[sv y] = en { x with w := y } := by
 rw [za6 (c := en x) (r := #[sv y]) (zqy x).1 (zqy x).2 rfl]
 simp [en, enL]
theorem zpm (x : En) : enL x = ((tr x.t).toList ++ [sv x.bal] ++ (vo x.v).toList ++ [sv x.w]) ++ ([sv x.late] ++ ([sv x.k] ++ ([sv x.j] ++ ((cc x.fin).toList ++ ([num x.now]))))) ∧ ((tr x.t).toList ++ [sv x.bal] ++ (vo x.v).toList ++ [sv x.w] : List Value).length = 5 := by
 constructor
 ·
  unfold enL; simp
 ·
  simp [zbn, zcp]
theorem z0w {w : World} {b off : Nat} {x : En} (h : w.rangeAt b off (enL x)) : w.cell? ⟨b, off + 5, none⟩ = some (sv x.late) := zbj h (zpm x).1 (zpm x).2
theorem zvz {w : World} {g : Nat} {t : TypeId} {fr : Nat × Nat} {x : En} (h : w.heap[g]? = some (.cells (en x) t fr)) : w.cell? ⟨g, 5, none⟩ = some (sv x.late) := by have := z0w (x := x) (zak h); rwa [Nat.zero_add] at this
theorem z4s (x : En) : enL x = ((tr x.t).toList ++ [sv x.bal] ++ (vo x.v).toList ++ [sv x.w] ++ [sv x.late]) ++ ([sv x.k] ++ ([sv x.j] ++ ((cc x.fin).toList ++ ([num x.now])))) ∧ ((tr x.t).toList ++ [sv x.bal] ++ (vo x.v).toList ++ [sv x.w] ++ [sv x.late] : List Value).length = 6 := by
 constructor
 ·
  unfold enL; simp
 ·
  simp [zbn, zcp]
theorem ye2 {w : World} {b off : Nat} {x : En} (h : w.rangeAt b off (enL x)) : w.cell? ⟨b, off + 6, none⟩ = some (sv x.k) := zbj h (z4s x).1 (z4s x).2
theorem yal {w : World} {g : Nat} {t : TypeId} {fr : Nat × Nat} {x : En} (h : w.heap[g]? = some (.cells (en x) t fr)) : w.cell? ⟨g, 6, none⟩ = some (sv x.k) := by have := ye2 (x := x) (zak h); rwa [Nat.zero_add] at this
theorem zqx (x : En) : enL x = ((tr x.t).toList ++ [sv x.bal] ++ (vo x.v).toList ++ [sv x.w] ++ [sv x.late] ++ [sv x.k]) ++ ([sv x.j] ++ ((cc x.fin).toList ++ ([num x.now]))) ∧ ((tr x.t).toList ++ [sv x.bal] ++ (vo x.v).toList ++ [sv x.w] ++ [sv x.late] ++ [sv x.k] : List Value).length = 7 := by
 constructor
 ·
  unfold enL; simp
 ·
  simp [zbn, zcp]
theorem ye1 {w : World} {b off : Nat} {x : En} (h : w.rangeAt b off (enL x)) : w.cell? ⟨b, off + 7, none⟩ = some (sv x.j) := zbj h (zqx x).1 (zqx x).2
theorem yak {w : World} {g : Nat} {t : TypeId} {fr : Nat × Nat} {x : En} (h : w.heap[g]? = some (.cells (en x) t fr)) : w.cell? ⟨g, 7, none⟩ = some (sv x.j) := by have := ye1 (x := x) (zak h); rwa [Nat.zero_add] at this
theorem zyk (x : En) (y : SlV) : zba (en x) 7 #[sv y] = en { x with j := y } := by
 rw [za6 (c := en x) (r := #[sv y]) (zqx x).1 (zqx x).2 rfl]
 simp [en, enL]
theorem zfl (x : En) : enL x = ((tr x.t).toList ++ [sv x.bal] ++ (vo x.v).toList ++ [sv x.w] ++ [sv x.late] ++ [sv x.k] ++ [sv x.j]) ++ ((cc x.fin).toList ++ ([num x.now])) ∧ ((tr x.t).toList ++ [sv x.bal] ++ (vo x.v).toList ++ [sv x.w] ++ [sv x.late] ++ [sv x.k] ++ [sv x.j] : List Value).length = 8 := by
 constructor
 ·
  unfold enL; simp
 ·
  simp [zbn, zcp]
theorem z4v {w : World} {b off : Nat} {x : En} (h : w.rangeAt b off (enL x)) : ldA w (.pointer (some ⟨b, off + 8, none⟩)) 33 = some (cc x.fin) := zb8 h (zfl x).1 (zfl x).2 (zax _)
theorem z0s {w : World} {g : Nat} {t : TypeId} {fr : Nat × Nat} {x : En} (h : w.heap[g]? = some (.cells (en x) t fr)) : ldA w (.pointer (some ⟨g, 8, none⟩)) 33 = some (cc x.fin) := by have := z4v (x := x) (zak h); rwa [Nat.zero_add] at this
theorem z0q (x : En) (y : Ck) : zba (en x) 8 (cc y) = en { x with fin := y } := by
 rw [za6 (c := en x) (zfl x).1 (zfl x).2 (by simp [zax])]
 simp [en, enL]
theorem zs1 (x : En) : enL x = ((tr x.t).toList ++ [sv x.bal] ++ (vo x.v).toList ++ [sv x.w] ++ [sv x.late] ++ [sv x.k] ++ [sv x.j] ++ (cc x.fin).toList) ++ ([num x.now] ++ ([])) ∧ ((tr x.t).toList ++ [sv x.bal] ++ (vo x.v).toList ++ [sv x.w] ++ [sv x.late] ++ [sv x.k] ++ [sv x.j] ++ (cc x.fin).toList : List Value).length = 41 := by
 constructor
 ·
  unfold enL; simp
 ·
  simp [zbn, zcp, zax]
theorem z4w {w : World} {b off : Nat} {x : En} (h : w.rangeAt b off (enL x)) : w.cell? ⟨b, off + 41, none⟩ = some (num x.now) := zbj h (zs1 x).1 (zs1 x).2
theorem z0t {w : World} {g : Nat} {t : TypeId} {fr : Nat × Nat} {x : En} (h : w.heap[g]? = some (.cells (en x) t fr)) : w.cell? ⟨g, 41, none⟩ = some (num x.now) := by have := z4w (x := x) (zak h); rwa [Nat.zero_add] at this
theorem ye6 {w : World} {b off : Nat} {x : En} (h : w.rangeAt b off (enL x)) : w.rangeAt b (off + 0) (trL x.t) := by
 rw [← zgd]; exact zci h (zj6 x).1 (zj6 x).2
theorem z4x {w : World} {b off : Nat} {x : En} (h : w.rangeAt b off (enL x)) : w.cell? ⟨b, off + 0, none⟩ = some (sv x.t.n) := zsi (ye6 h)
theorem z0u {w : World} {g : Nat} {t : TypeId} {fr : Nat × Nat} {x : En} (h : w.heap[g]? = some (.cells (en x) t fr)) : w.cell? ⟨g, 0, none⟩ = some (sv x.t.n) := by have := z4x (x := x) (zak h); rwa [Nat.zero_add] at this
theorem ye7 {w : World} {b off : Nat} {x : En} (h : w.rangeAt b off (enL x)) : w.rangeAt b (off + 2) (voL x.v) := by
 rw [← zso]; exact zci h (zj7 x).1 (zj7 x).2
theorem z4y {w : World} {b off : Nat} {x : En} (h : w.rangeAt b off (enL x)) : w.cell? ⟨b, off + 2, none⟩ = some (sv x.v.l) := z8h (ye7 h)
theorem z0v {w : World} {g : Nat} {t : TypeId} {fr : Nat × Nat} {x : En} (h : w.heap[g]? = some (.cells (en x) t fr)) : w.cell? ⟨g, 2, none⟩ = some (sv x.v.l) := by have := z4y (x := x) (zak h); rwa [Nat.zero_add] at this
theorem z4z {w : World} {b off : Nat} {x : En} (h : w.rangeAt b off (enL x)) : w.rangeAt b (off + 8) (ccL x.fin) := by
 rw [← zbm]; exact zci h (zfl x).1 (zfl x).2
theorem zon {w : World} {b off : Nat} {x : En} (h : w.rangeAt b off (enL x)) : ldA w (.pointer (some ⟨b, off + 9, none⟩)) 32 = some (rc x.fin.root) := zc6 (z4z h)
theorem zmm {w : World} {g : Nat} {t : TypeId} {fr : Nat × Nat} {x : En} (h : w.heap[g]? = some (.cells (en x) t fr)) : ldA w (.pointer (some ⟨g, 9, none⟩)) 32 = some (rc x.fin.root) := by have := zon (x := x) (zak h); rwa [Nat.zero_add] at this
attribute [go_sem] yai zpn yaj zyl zyk z0q
@[go_sem] theorem ye0 (x : En) (p : Option Addr) (k c : Nat) : zba (en x) 1 #[.slice p k c] = en { x with bal := ⟨p, k, c⟩ } := zpn x ⟨p, k, c⟩
@[go_sem] theorem yio (x : En) (p : Option Addr) (k c : Nat) : zba (en x) 4 #[.slice p k c] = en { x with w := ⟨p, k, c⟩ } := zyl x ⟨p, k, c⟩
@[go_sem] theorem yin (x : En) (p : Option Addr) (k c : Nat) : zba (en x) 7 #[.slice p k c] = en { x with j := ⟨p, k, c⟩ } := zyk x ⟨p, k, c⟩
theorem z0e : Tryz.prog.cellsOf 38 = 42 := by kernel_rfl
section
open Go.WideShapes Go.ChangeShapes
variable {H : Type} {enc : TypeId × Value → H} {w : World} {base : Nat} {sp : Nat → Bool} {held : Bool}
theorem z90 {fuel : Nat} {cs : List Value} {x : DataW H × List MemPlace} (hl : cs.length = 42) (h : DataW.trod enc Tryz.prog w base sp held fuel 38 cs = some x) : ∃ a : En, cs = enL a ∧ (∃ l, SlE Ene w (sv a.t.n) l) ∧ (∃ l, SlE Enum w (sv a.bal) l) ∧ (∃ l, SlE Elt w (sv a.v.l) l) ∧ (∃ l, SlE Enum w (sv a.w) l) ∧ (∃ l, SlE Eaa w (sv a.late) l) ∧ (∃ l, SlE Elk w (sv a.k) l) ∧ (∃ l, SlE Ecc w (sv a.j) l) := by
 obtain ⟨_, _, h0⟩ := zav (i := 0) zc0 zf1 rfl h
 rw [zpi] at h0
 obtain ⟨a0, e0, k0_0⟩ := zye (by rw [List.length_take, List.length_drop]; omega) h0
 rw [← zgd] at e0
 obtain ⟨_, _, h1⟩ := zav (i := 1) zc0 zf1 rfl h
 rw [show Tryz.prog.cellsOf 25 = 1 from by kernel_rfl] at h1
 obtain ⟨a1, e1, k1_0⟩ := zpj h1
 obtain ⟨_, _, h2⟩ := zav (i := 2) zc0 zf1 rfl h
 rw [z0g] at h2
 obtain ⟨a2, e2, k2_0⟩ := z95 (by rw [List.length_take, List.length_drop]; omega) h2
 rw [← zso] at e2
 obtain ⟨_, _, h3⟩ := zav (i := 3) zc0 zf1 rfl h
 rw [show Tryz.prog.cellsOf 25 = 1 from by kernel_rfl] at h3
 obtain ⟨a3, e3, k3_0⟩ := zpj h3
 obtain ⟨_, _, h4⟩ := zav (i := 4) zc0 zf1 rfl h
 rw [show Tryz.prog.cellsOf 30 = 1 from by kernel_rfl] at h4
 obtain ⟨a4, e4, k4_0⟩ := z39 h4
 obtain ⟨_, _, h5⟩ := zav (i := 5) zc0 zf1 rfl h
 rw [show Tryz.prog.cellsOf 31 = 1 from by kernel_rfl] at h5
 obtain ⟨a5, e5, k5_0⟩ := z4d h5
 obtain ⟨_, _, h6⟩ := zav (i := 6) zc0 zf1 rfl h
 rw [show Tryz.prog.cellsOf 32 = 1 from by kernel_rfl] at h6
 obtain ⟨a6, e6, k6_0⟩ := z4c h6
 obtain ⟨_, _, h7⟩ := zav (i := 7) zc0 zf1 rfl h
 rw [zbw] at h7
 obtain ⟨a7, e7⟩ := ze5 (by rw [List.length_take, List.length_drop]; omega) h7
 rw [← zbm] at e7
 obtain ⟨_, _, h8⟩ := zav (i := 8) zc0 zf1 rfl h
 rw [zb9] at h8
 obtain ⟨a8, e8⟩ := zcy h8
 refine ⟨⟨a0, a1, a2, a3, a4, a5, a6, a7, a8⟩, ?_, k0_0, k1_0, k2_0, k3_0, k4_0, k5_0, k6_0⟩
 unfold enL
 have j0 := za9 cs 0 1
 rw [e0] at j0
 have j1 := za9 cs 1 1
 rw [e1] at j1
 have j2 := za9 cs 2 2
 rw [e2] at j2
 have j3 := za9 cs 4 1
 rw [e3] at j3
 have j4 := za9 cs 5 1
 rw [e4] at j4
 have j5 := za9 cs 6 1
 rw [e5] at j5
 have j6 := za9 cs 7 1
 rw [e6] at j6
 have j7 := za9 cs 8 33
 rw [e7] at j7
 have j8 := za9 cs 41 1
 rw [e8] at j8
 have jl : cs.drop 42 = [] := List.drop_of_length_le (by omega)
 rw [show (41 + 1) = 42 from rfl, jl, List.append_nil] at j8
 rw [← List.drop_zero (l := cs)]
 rw [← j0]
 rw [show cs.drop (0 + 1) = cs.drop 1 from rfl, ← j1]
 rw [show cs.drop (1 + 1) = cs.drop 2 from rfl, ← j2]
 rw [show cs.drop (2 + 2) = cs.drop 4 from rfl, ← j3]
 rw [show cs.drop (4 + 1) = cs.drop 5 from rfl, ← j4]
 rw [show cs.drop (5 + 1) = cs.drop 6 from rfl, ← j5]
 rw [show cs.drop (6 + 1) = cs.drop 7 from rfl, ← j6]
 rw [show cs.drop (7 + 1) = cs.drop 8 from rfl, ← j7]
 rw [show cs.drop (8 + 33) = cs.drop 41 from rfl, ← j8]
 try rfl
theorem open_en {r : Reach} {b0 : Nat} {v : Value} {d : DataW H} {ps : List MemPlace} (hval : Value.okWide Tryz.prog w r b0 38 v) (hd : DataW.Trod enc Tryz.prog w base sp held 38 v d ps) : ∃ a : En, v = .agg (en a) ∧ (∃ l, SlE Ene w (sv a.t.n) l) ∧ (∃ l, SlE Enum w (sv a.bal) l) ∧ (∃ l, SlE Elt w (sv a.v.l) l) ∧ (∃ l, SlE Enum w (sv a.w) l) ∧ (∃ l, SlE Eaa w (sv a.late) l) ∧ (∃ l, SlE Elk w (sv a.k) l) ∧ (∃ l, SlE Ecc w (sv a.j) l) := by
 obtain ⟨xs, rfl, hn⟩ := okWide_struct zc0 hval
 rw [z0e] at hn
 obtain ⟨fuel, hf⟩ := hd
 obtain ⟨a, ha, k0_0, k1_0, k2_0, k3_0, k4_0, k5_0, k6_0⟩ := z90 (cs := xs.toList) (by rw [Array.length_toList, hn]) hf
 exact ⟨a, by rw [show xs = en a from Array.toList_inj.1 ha], k0_0, k1_0, k2_0, k3_0, k4_0, k5_0, k6_0⟩
end
attribute [irreducible] en
end
section
open Go.RowKit
def byv (n : UInt8) : Value := .int .u8 (n.toNat : Int)
attribute [go_sem] byv
theorem zvt : Tryz.prog.cellsOf 5 = 1 := by kernel_rfl
def Ebyt : Lie UInt8 := ⟨5, 1, fun n => [byv n], by decide, fun _ => rfl, fun _ u h => by rw [List.mem_singleton.1 h]; rfl⟩
section
open Go.WideShapes Go.ChangeShapes
variable {H : Type} {enc : TypeId × Value → H} {w : World} {base : Nat} {sp : Nat → Bool} {held : Bool}
theorem z4b {fuel : Nat} {cs : List Value} {x : DataW H × List MemPlace} (h : DataW.trod enc Tryz.prog w base sp held fuel 5 cs = some x) : ∃ n : UInt8, cs = [byv n] := by
 obtain ⟨n, e1, _, e3⟩ := DataW.trod_int Tryz.underlying5 h
 have hb : (decide (IntKind.u8.min ≤ n) && decide (n ≤ IntKind.u8.max)) = true := e3
 rw [Bool.and_eq_true, decide_eq_true_eq, decide_eq_true_eq, show IntKind.u8.min = 0 from rfl, show IntKind.u8.max = 255 from rfl] at hb
 refine ⟨UInt8.ofNat n.toNat, ?_⟩
 rw [e1, byv, UInt8.toNat_ofNat', Nat.mod_eq_of_lt (by simp; omega)]
 congr 2
 omega
end
end
section
open Go.RowKit
section
open Go.WideShapes Go.ChangeShapes
variable {H : Type} {enc : TypeId × Value → H} {w : World} {base : Nat} {sp : Nat → Bool} {held : Bool}
theorem z37 {fuel : Nat} {v : Value} {x : DataW H × List MemPlace} (h : DataW.trod enc Tryz.prog w base sp held fuel 41 [v] = some x) : ∃ l : List UInt8, SlE Ebyt w v l :=
 zh6 Tryz.underlying41 zvt (fun _ _ _ h => z4b h) h
theorem z0h {fuel : Nat} {cs : List Value} {x : DataW H × List MemPlace} (h : DataW.trod enc Tryz.prog w base sp held fuel 41 cs = some x) : ∃ s : SlV, cs = [sv s] ∧ ∃ l : List UInt8, SlE Ebyt w (sv s) l := by
 rcases Deep.open_slice Tryz.underlying41 h with ⟨h1, _⟩ | ⟨a', len', cap', _, _, _, _, h1, _⟩
 ·
  subst h1
  exact ⟨⟨none, 0, 0⟩, rfl, [], zbg _ _ _ _⟩
 ·
  subst h1
  exact ⟨⟨some a', len', cap'⟩, rfl, z37 h⟩
end
end
end Go.Proofs.YtkalofboioffiaaGreat
