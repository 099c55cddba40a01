/-
  A slice's value as plain data; for every program.
  []api.Latest: append, s[n:], an argument; in any translation that has it. (written by wip/mkslice.py)
  api.Votes: its plain data, its cells, loads, stores, literals, ==, its parts in memory, an argument; in any translation that has it. (written by wip/mkstruct.py)
-/
import Derived.Test.YtccihllcohnnnaaQ08
import Derived.Test.YtccihllcohnnnaaQ10
namespace Go.Proofs.Ytccihllcohnnnaa
open Go.RowKit
set_option maxRecDepth 100000
structure SlV where
  p : Option Addr
  len : Nat
  cap : Nat
def sv (s : SlV) : Value := .slice s.p s.len s.cap
@[go_sem] theorem sv_mk (p : Option Addr) (n c : Nat) : sv ⟨p, n, c⟩ = .slice p n c := rfl
theorem slE_sv {α : Type} {E : Lie α} {w : World} {v : Value} {l : List α} (h : SlE E w v l) : ∃ s : SlV, v = sv s ∧ s.len = l.length := by
  obtain ⟨p, cap, e, _⟩ := slE_shape h
  exact ⟨⟨p, l.length, cap⟩, e, rfl⟩
end Go.Proofs.Ytccihllcohnnnaa
namespace Go.Proofs.Ytccihllcohnnnaa
open Go.RowKit
set_option maxRecDepth 100000
theorem info_lt : (Try.prog.info? 41).map (fun i => (i.zero, i.size, i.bytes)) = some (some (.agg (lt zlt)), 34, 48) := by kernel_rfl
theorem Klt : Known Try.prog Elt 25 := ⟨Try.underlying25, .agg (lt zlt), 48, info_lt, by show ((lt zlt)).size = _; exact lt_size _, by decide⟩
@[go_sem ↓] theorem slice_from_lt (ρ : Operand → Value) (dst : Option Tmp) (x lo : Operand) (ty : TypeId) (pos : String) (after : Array Edge) (guard : Option (Nat × Bool)) (w : World) :
    (execOp ρ { dst, op := .slice 25 x (some lo) none none, type := ty, pos, after, guard }).run Try.prog w = vOutE (cutFE 34 (ρ x) (ρ lo)) w (opRest Try.prog ρ { dst, op := .slice 25 x (some lo) none none, type := ty, pos, after, guard } w) :=
  slice_from_E Try.underlying25 Try.sizeOf41 ρ dst x lo ty pos after guard w
@[go_sem ↓] theorem buildSlice_lt (ρ : Operand → Value) (dst : Option Tmp) (x : Operand) (ty : TypeId) (pos : String) (after : Array Edge) (guard : Option (Nat × Bool)) (w : World) (hx : okA 34 (ρ x) = true) :
    (execOp ρ { dst, op := .buildSlice 25 1 #[(0, x)], type := ty, pos, after, guard }).run Try.prog w = .ok (.value (.slice (some ⟨w.heap.size, 0, none⟩) 1 1)) (w.alloc (.cells (cellsA (ρ x)) 41)) := by
  obtain ⟨c, hc, hn⟩ : ∃ c, ρ x = .agg c ∧ c.size = 34 := by
    unfold okA at hx
    split at hx
    · rename_i c hc
      rw [Bool.and_eq_true, beq_iff_eq] at hx
      exact ⟨c, hc, hx.1⟩
    · cases hx
  have hp : (1 * 34 > 2 ^ 24) = False := by simp
  have h0 : (1 * 34 = 0) = False := by simp
  unfold execOp
  simp only [Instr.buildSlice, Sem.run_bind, run_underlying Try.underlying25, Result.andThen_ok, Try.sizeOf41, hp, h0, if_false, zero_lt, Value.cells]
  simp only [List.map_toArray, List.map_cons, List.map_nil, hc, Instr.fill, Value.cells, hn, Nat.zero_mul]
  simp [cellsA]
  rw [foldl_zip _ c (by simp [hn])]
  rfl
section
open Go.WideShapes Go.ChangeShapes
variable {H : Type} {enc : TypeId × Value → H} {w : World} {base : Nat} {sp : Nat → Bool} {held : Bool}
set_option maxRecDepth 100000 in
/-- A slice's one cell. -/
theorem cell_lts {fuel : Nat} {v : Value} {x : DataW H × List MemPlace} (h : DataW.trod enc Try.prog w base sp held fuel 25 [v] = some x) : ∃ l : List Lt, SlE Elt w v l :=
  cells_E Try.underlying25 cellsOf_lt (fun _ cs _ h => cells_lt (by obtain ⟨_, _, _, _, hl, _⟩ := DataW.trod_struct under_lt h; rw [hl, cellsOf_lt]) h) h
set_option maxRecDepth 100000 in
theorem cells_lts {fuel : Nat} {cs : List Value} {x : DataW H × List MemPlace} (h : DataW.trod enc Try.prog w base sp held fuel 25 cs = some x) : ∃ s : SlV, cs = [sv s] ∧ ∃ l : List Lt, SlE Elt w (sv s) l := by
  rcases Deep.open_slice Try.underlying25 h with ⟨h1, _⟩ | ⟨a', len', cap', _, _, _, _, h1, _⟩
  · subst h1
    exact ⟨⟨none, 0, 0⟩, rfl, [], slE_nil _ _ _ _⟩
  · subst h1
    exact ⟨⟨some a', len', cap'⟩, rfl, cell_lts h⟩
set_option maxRecDepth 100000 in
theorem open_lts {r : Reach} {b0 : Nat} {v : Value} {d : DataW H} {ps : List MemPlace} (hval : Value.okWide Try.prog w r b0 25 v) (hd : DataW.Trod enc Try.prog w base sp held 25 v d ps) : ∃ l : List Lt, SlE Elt w v l := by
  obtain ⟨a, len, cap, rfl⟩ := okWide_slice Try.underlying25 hval
  obtain ⟨fuel, hf⟩ := hd
  exact cell_lts hf
end
end Go.Proofs.Ytccihllcohnnnaa
namespace Go.Proofs.Ytccihllcohnnnaa
open Go.RowKit
set_option maxRecDepth 100000

structure Vo where
  l : SlV
  out : UInt64
theorem Vo.ext {x y : Vo} (h0 : x.l = y.l) (h1 : x.out = y.out) : x = y := by cases x; cases y; simp_all
def voL (x : Vo) : List Value := [sv x.l] ++ ([num x.out])
def vo (x : Vo) : Array Value := (voL x).toArray
theorem vo_list (x : Vo) : (vo x).toList = voL x := rfl
theorem vo_len (x : Vo) : (voL x).length = 2 := by simp [voL]
theorem vo_size (x : Vo) : (vo x).size = 2 := by rw [← Array.length_toList, vo_list, vo_len]
theorem vo_one (x : Vo) : ∀ v ∈ voL x, v.oneCell' = true := by
  intro v hv
  unfold voL at hv
  simp only [List.mem_append, List.mem_singleton] at hv
  rcases hv with rfl | rfl
  · rfl
  · rfl
@[go_sem] theorem okA_vo (x : Vo) : okA 2 (.agg (vo x)) = true := by
  show ((vo x).size == 2 && (vo x).all (·.oneCell')) = true
  rw [show (vo x).all (·.oneCell') = true from all_one (vo_one x), vo_size]; rfl
def zvo : Vo := ⟨⟨none, 0, 0⟩, 0⟩
theorem zero_vo (w : World) : (zeroValue 28).run Try.prog w = .ok (.agg (vo zvo)) w := by kernel_rfl
@[go_sem ↓] theorem load_vo (ρ : Operand → Value) (dst : Option Tmp) (x : Operand) (ty : TypeId) (pos : String) (after : Array Edge) (guard : Option (Nat × Bool)) (w : World) :
    (execOp ρ { dst, op := .load 28 x, type := ty, pos, after, guard }).run Try.prog w = ldOut (ldA w (ρ x) 2) w (opRest Try.prog ρ { dst, op := .load 28 x, type := ty, pos, after, guard } w) :=
  run_load_out Try.isAgg28 Try.sizeOf28 ρ dst x ty pos after guard w
@[go_sem ↓] theorem store_vo (ρ : Operand → Value) (dst : Option Tmp) (x y : Operand) (ty : TypeId) (pos : String) (after : Array Edge) (guard : Option (Nat × Bool)) (w : World) :
    (execOp ρ { dst, op := .store 28 x y, type := ty, pos, after, guard }).run Try.prog w = stOut (wrA w (ρ x) 2 && okA 2 (ρ y)) (stA w (ρ x) (ρ y)) (opRest Try.prog ρ { dst, op := .store 28 x y, type := ty, pos, after, guard } w) :=
  run_store_out Try.sizeOf28 ρ dst x y ty pos after guard w
@[go_sem ↓] theorem alloc_vo (ρ : Operand → Value) (dst : Option Tmp) (ty : TypeId) (pos : String) (after : Array Edge) (guard : Option (Nat × Bool)) (w : World) :
    (execOp ρ { dst, op := .alloc 28, type := ty, pos, after, guard }).run Try.prog w = .ok (.value (.pointer (some ⟨w.heap.size, 0, none⟩))) (w.alloc (.cells (vo zvo) 28)) := by
  unfold execOp
  simp only [Instr.alloc, Sem.run_bind, zero_vo, Result.andThen_ok]
  rfl
def places_vo : List (Nat × Nat) := [(0, 1), (1, 1)]
theorem fields_vo : ∀ w : World, ((Try.prog.fieldsOf 28).mapM (m := Sem) fun f => do pure (f.offset, ← Go.sizeOf f.type)).run Try.prog w = .ok places_vo.toArray w := fun _ => by kernel_rfl
theorem under_vo : Try.prog.underlying 28 = some (.struct (Try.prog.fieldsOf 28)) := by kernel_rfl
theorem flds_vo : (Try.prog.fieldsOf 28).toList.map (fun f => (f.name, f.type, f.offset)) = [("L", 25, 0), ("Out", 26, 1)] := by kernel_rfl
@[go_sem ↓] theorem build_vo (ρ : Operand → Value) (dst : Option Tmp) (p : Nat × Operand) (ps : List (Nat × Operand)) (ty : TypeId) (pos : String) (after : Array Edge) (guard : Option (Nat × Bool)) (w : World) :
    (execOp ρ { dst, op := .build 28 (p :: ps).toArray, type := ty, pos, after, guard }).run Try.prog w = vOutE ((fillA places_vo (vo zvo) ((p.1, ρ p.2) :: ps.map fun p => (p.1, ρ p.2))).map .agg) w (opRest Try.prog ρ { dst, op := .build 28 (p :: ps).toArray, type := ty, pos, after, guard } w) :=
  build_out zero_vo under_vo fields_vo ρ dst (p :: ps).toArray ty pos after guard w
@[go_sem ↓] theorem build0_vo (ρ : Operand → Value) (dst : Option Tmp) (ty : TypeId) (pos : String) (after : Array Edge) (guard : Option (Nat × Bool)) (w : World) :
    (execOp ρ { dst, op := .build 28 #[], type := ty, pos, after, guard }).run Try.prog w = .ok (.value (.agg (vo zvo))) w :=
  build_out zero_vo under_vo fields_vo ρ dst #[] ty pos after guard w
attribute [go_sem] places_vo vo_size
theorem vo_at_l (x : Vo) : voL x = ([]) ++ ([sv x.l] ++ ([num x.out])) ∧ ([] : List Value).length = 0 := by
  constructor
  · unfold voL; simp
  · rfl
theorem vo_get_l (x : Vo) : (vo x)[0]? = some (sv x.l) := get_at (vo_at_l x).1 (vo_at_l x).2
@[go_sem] theorem vo_gi_l (x : Vo) (h : 0 < (vo x).size) : (vo x)[0]'h = sv x.l := by have := vo_get_l x; rw [Array.getElem?_eq_getElem h] at this; exact Option.some.inj this
theorem vo_rd_l {w : World} {b off : Nat} {x : Vo} (h : w.rangeAt b off (voL x)) : w.cell? ⟨b, off + 0, none⟩ = some (sv x.l) := range_one h (vo_at_l x).1 (vo_at_l x).2
theorem vo_rd0_l {w : World} {g : Nat} {t : TypeId} {fr : Nat × Nat} {x : Vo} (h : w.heap[g]? = some (.cells (vo x) t fr)) : w.cell? ⟨g, 0, none⟩ = some (sv x.l) := by have := vo_rd_l (x := x) (range_block h); rwa [Nat.zero_add] at this
theorem vo_put_l (x : Vo) (y : SlV) : putSeg (vo x) 0 #[sv y] = vo { x with l := y } := by
  rw [putSeg_mid (c := vo x) (r := #[sv y]) (vo_at_l x).1 (vo_at_l x).2 rfl]
  simp [vo, voL]
theorem vo_at_out (x : Vo) : voL x = ([sv x.l]) ++ ([num x.out] ++ ([])) ∧ ([sv x.l] : List Value).length = 1 := by
  constructor
  · unfold voL; simp
  · simp
theorem vo_get_out (x : Vo) : (vo x)[1]? = some (num x.out) := get_at (vo_at_out x).1 (vo_at_out x).2
@[go_sem] theorem vo_gi_out (x : Vo) (h : 1 < (vo x).size) : (vo x)[1]'h = num x.out := by have := vo_get_out x; rw [Array.getElem?_eq_getElem h] at this; exact Option.some.inj this
theorem vo_rd_out {w : World} {b off : Nat} {x : Vo} (h : w.rangeAt b off (voL x)) : w.cell? ⟨b, off + 1, none⟩ = some (num x.out) := range_one h (vo_at_out x).1 (vo_at_out x).2
theorem vo_rd0_out {w : World} {g : Nat} {t : TypeId} {fr : Nat × Nat} {x : Vo} (h : w.heap[g]? = some (.cells (vo x) t fr)) : w.cell? ⟨g, 1, none⟩ = some (num x.out) := by have := vo_rd_out (x := x) (range_block h); rwa [Nat.zero_add] at this
theorem vo_put_out (x : Vo) (y : UInt64) : putSeg (vo x) 1 #[num y] = vo { x with out := y } := by
  rw [putSeg_mid (c := vo x) (r := #[num y]) (vo_at_out x).1 (vo_at_out x).2 rfl]
  simp [vo, voL]
@[go_sem] theorem vo_set_l (x : Vo) (y : SlV) : (vo x).setIfInBounds 0 (sv y) = vo { x with l := y } := by
  rw [setIfInBounds_seg (by rw [vo_size]; decide)]; exact vo_put_l x y
@[go_sem] theorem vo_sets_l (x : Vo) (p : Option Addr) (k c : Nat) : (vo x).setIfInBounds 0 (.slice p k c) = vo { x with l := ⟨p, k, c⟩ } := by
  rw [setIfInBounds_seg (by rw [vo_size]; decide)]; exact vo_put_l x ⟨p, k, c⟩
@[go_sem] theorem vo_set_out (x : Vo) (y : UInt64) : (vo x).setIfInBounds 1 (num y) = vo { x with out := y } := by
  rw [setIfInBounds_seg (by rw [vo_size]; decide)]; exact vo_put_out x y
@[go_sem] theorem vo_setn_out (x : Vo) (y : UInt64) : (vo x).setIfInBounds 1 (.int .u64 (y.toNat : Int)) = vo { x with out := y } := by
  rw [setIfInBounds_seg (by rw [vo_size]; decide)]; exact vo_put_out x y
attribute [go_sem] vo_put_l vo_put_out
@[go_sem] theorem vo_puts_l (x : Vo) (p : Option Addr) (k c : Nat) : putSeg (vo x) 0 #[.slice p k c] = vo { x with l := ⟨p, k, c⟩ } := vo_put_l x ⟨p, k, c⟩
@[go_sem] theorem vo_putn_out (x : Vo) (y : UInt64) : putSeg (vo x) 1 #[.int .u64 (y.toNat : Int)] = vo { x with out := y } := vo_put_out x y
theorem cellsOf_vo : Try.prog.cellsOf 28 = 2 := by kernel_rfl
section
open Go.WideShapes Go.ChangeShapes
variable {H : Type} {enc : TypeId × Value → H} {w : World} {base : Nat} {sp : Nat → Bool} {held : Bool}
set_option maxRecDepth 100000 in
theorem cells_vo {fuel : Nat} {cs : List Value} {x : DataW H × List MemPlace} (hl : cs.length = 2) (h : DataW.trod enc Try.prog w base sp held fuel 28 cs = some x) : ∃ a : Vo, cs = voL a ∧ (∃ l, SlE Elt w (sv a.l) l) := by
  obtain ⟨_, _, h0⟩ := trod_field (i := 0) under_vo flds_vo rfl h
  rw [show Try.prog.cellsOf 25 = 1 from by kernel_rfl] at h0
  obtain ⟨a0, e0, k0⟩ := cells_lts h0
  obtain ⟨_, _, h1⟩ := trod_field (i := 1) under_vo flds_vo rfl h
  rw [cellsOf_num] at h1
  obtain ⟨a1, e1⟩ := cells_num h1
  refine ⟨⟨a0, a1⟩, ?_, k0⟩
  unfold voL
  have j0 := seg_join cs 0 1
  rw [e0] at j0
  have j1 := seg_join cs 1 1
  rw [e1] at j1
  have jl : cs.drop 2 = [] := List.drop_of_length_le (by omega)
  rw [show (1 + 1) = 2 from rfl, jl, List.append_nil] at j1
  rw [← List.drop_zero (l := cs)]
  rw [← j0]
  rw [show cs.drop (0 + 1) = cs.drop 1 from rfl, ← j1]
  try rfl
set_option maxRecDepth 100000 in
theorem open_vo {r : Reach} {b0 : Nat} {v : Value} {d : DataW H} {ps : List MemPlace} (hval : Value.okWide Try.prog w r b0 28 v) (hd : DataW.Trod enc Try.prog w base sp held 28 v d ps) : ∃ a : Vo, v = .agg (vo a) ∧ (∃ l, SlE Elt w (sv a.l) l) := by
  obtain ⟨xs, rfl, hn⟩ := okWide_struct under_vo hval
  rw [cellsOf_vo] at hn
  obtain ⟨fuel, hf⟩ := hd
  obtain ⟨a, ha, k0⟩ := cells_vo (cs := xs.toList) (by rw [Array.length_toList, hn]) hf
  exact ⟨a, by rw [show xs = vo a from Array.toList_inj.1 ha], k0⟩
end
def Evo : Lie Vo := ⟨28, 2, voL, by decide, vo_len, vo_one⟩
attribute [irreducible] vo
end Go.Proofs.Ytccihllcohnnnaa
