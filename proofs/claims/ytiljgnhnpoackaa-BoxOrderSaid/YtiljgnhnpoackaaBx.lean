/-
  api.Box: its plain data, its cells, loads, stores, literals, ==, its parts in memory, an argument; in any translation that has it. (written by wip/mkstruct.py)
-/
import Derived.Test.YtiljgnhnpoackaaPr
import Derived.Test.YtiljgnhnpoackaaSv
import Derived.Test.YtiljgnhnpoackaaNtS
namespace Go.Proofs.Ytiljgnhnpoackaa
open Go.RowKit

structure Bx where
  cap : Int
  l : SlV
  lag : Bool
  closed : Bool
theorem Bx.ext {x y : Bx} (h0 : x.cap = y.cap) (h1 : x.l = y.l) (h2 : x.lag = y.lag) (h3 : x.closed = y.closed) : x = y := by cases x; cases y; simp_all
def bxL (x : Bx) : List Value := [.int .i64 x.cap] ++ ([sv x.l] ++ ([.bool x.lag] ++ ([.bool x.closed])))
def bx (x : Bx) : Array Value := (bxL x).toArray
theorem bx_list (x : Bx) : (bx x).toList = bxL x := rfl
theorem bx_len (x : Bx) : (bxL x).length = 4 := by simp [bxL]
theorem bx_size (x : Bx) : (bx x).size = 4 := by rw [← Array.length_toList, bx_list, bx_len]
theorem bx_one (x : Bx) : ∀ v ∈ bxL x, v.oneCell' = true := by
  intro v hv
  unfold bxL at hv
  simp only [List.mem_append, List.mem_singleton] at hv
  rcases hv with rfl | rfl | rfl | rfl
  · rfl
  · rfl
  · rfl
  · rfl
@[go_sem] theorem okA_bx (x : Bx) : okA 4 (.agg (bx x)) = true := by
  show ((bx x).size == 4 && (bx x).all (·.oneCell')) = true
  rw [show (bx x).all (·.oneCell') = true from all_one (bx_one x), bx_size]; rfl
def zbx : Bx := ⟨0, ⟨none, 0, 0⟩, false, false⟩
theorem zero_bx (w : World) : (zeroValue 24).run Try.prog w = .ok (.agg (bx zbx)) w := by kernel_rfl
@[go_sem ↓] theorem load_bx (ρ : Operand → Value) (dst : Option Tmp) (x : Operand) (ty : TypeId) (pos : String) (after : Array Edge) (guard : Option (Nat × Bool)) (w : World) :
    (execOp ρ { dst, op := .load 24 x, type := ty, pos, after, guard }).run Try.prog w = ldOut (ldA w (ρ x) 4) w (opRest Try.prog ρ { dst, op := .load 24 x, type := ty, pos, after, guard } w) :=
  run_load_out Try.isAgg24 Try.sizeOf24 ρ dst x ty pos after guard w
@[go_sem ↓] theorem store_bx (ρ : Operand → Value) (dst : Option Tmp) (x y : Operand) (ty : TypeId) (pos : String) (after : Array Edge) (guard : Option (Nat × Bool)) (w : World) :
    (execOp ρ { dst, op := .store 24 x y, type := ty, pos, after, guard }).run Try.prog w = stOut (wrA w (ρ x) 4 && okA 4 (ρ y)) (stA w (ρ x) (ρ y)) (opRest Try.prog ρ { dst, op := .store 24 x y, type := ty, pos, after, guard } w) :=
  run_store_out Try.sizeOf24 ρ dst x y ty pos after guard w
@[go_sem ↓] theorem alloc_bx (ρ : Operand → Value) (dst : Option Tmp) (ty : TypeId) (pos : String) (after : Array Edge) (guard : Option (Nat × Bool)) (w : World) :
    (execOp ρ { dst, op := .alloc 24, type := ty, pos, after, guard }).run Try.prog w = .ok (.value (.pointer (some ⟨w.heap.size, 0, none⟩))) (w.alloc (.cells (bx zbx) 24)) := by
  unfold execOp
  simp only [Instr.alloc, Sem.run_bind, zero_bx, Result.andThen_ok]
  rfl
def places_bx : List (Nat × Nat) := [(0, 1), (1, 1), (2, 1), (3, 1)]
theorem fields_bx : ∀ w : World, ((Try.prog.fieldsOf 24).mapM (m := Sem) fun f => do pure (f.offset, ← Go.sizeOf f.type)).run Try.prog w = .ok places_bx.toArray w := fun _ => by kernel_rfl
theorem under_bx : Try.prog.underlying 24 = some (.struct (Try.prog.fieldsOf 24)) := by kernel_rfl
theorem flds_bx : (Try.prog.fieldsOf 24).toList.map (fun f => (f.name, f.type, f.offset)) = [("Cap", 3, 0), ("L", 22, 1), ("Lag", 4, 2), ("Closed", 4, 3)] := by kernel_rfl
@[go_sem ↓] theorem build_bx (ρ : Operand → Value) (dst : Option Tmp) (p : Nat × Operand) (ps : List (Nat × Operand)) (ty : TypeId) (pos : String) (after : Array Edge) (guard : Option (Nat × Bool)) (w : World) :
    (execOp ρ { dst, op := .build 24 (p :: ps).toArray, type := ty, pos, after, guard }).run Try.prog w = vOutE ((fillA places_bx (bx zbx) ((p.1, ρ p.2) :: ps.map fun p => (p.1, ρ p.2))).map .agg) w (opRest Try.prog ρ { dst, op := .build 24 (p :: ps).toArray, type := ty, pos, after, guard } w) :=
  build_out zero_bx under_bx fields_bx ρ dst (p :: ps).toArray ty pos after guard w
@[go_sem ↓] theorem build0_bx (ρ : Operand → Value) (dst : Option Tmp) (ty : TypeId) (pos : String) (after : Array Edge) (guard : Option (Nat × Bool)) (w : World) :
    (execOp ρ { dst, op := .build 24 #[], type := ty, pos, after, guard }).run Try.prog w = .ok (.value (.agg (bx zbx))) w :=
  build_out zero_bx under_bx fields_bx ρ dst #[] ty pos after guard w
attribute [go_sem] places_bx bx_size
theorem bx_at_cap (x : Bx) : bxL x = ([]) ++ ([.int .i64 x.cap] ++ ([sv x.l] ++ ([.bool x.lag] ++ ([.bool x.closed])))) ∧ ([] : List Value).length = 0 := by
  constructor
  · unfold bxL; simp
  · rfl
theorem bx_get_cap (x : Bx) : (bx x)[0]? = some (.int .i64 x.cap) := get_at (bx_at_cap x).1 (bx_at_cap x).2
@[go_sem] theorem bx_gi_cap (x : Bx) (h : 0 < (bx x).size) : (bx x)[0]'h = .int .i64 x.cap := by have := bx_get_cap x; rw [Array.getElem?_eq_getElem h] at this; exact Option.some.inj this
theorem bx_rd_cap {w : World} {b off : Nat} {x : Bx} (h : w.rangeAt b off (bxL x)) : w.cell? ⟨b, off + 0, none⟩ = some (.int .i64 x.cap) := range_one h (bx_at_cap x).1 (bx_at_cap x).2
theorem bx_rd0_cap {w : World} {g : Nat} {t : TypeId} {fr : Nat × Nat} {x : Bx} (h : w.heap[g]? = some (.cells (bx x) t fr)) : w.cell? ⟨g, 0, none⟩ = some (.int .i64 x.cap) := by have := bx_rd_cap (x := x) (range_block h); rwa [Nat.zero_add] at this
theorem bx_put_cap (x : Bx) (y : Int) : putSeg (bx x) 0 #[.int .i64 y] = bx { x with cap := y } := by
  rw [putSeg_mid (c := bx x) (r := #[.int .i64 y]) (bx_at_cap x).1 (bx_at_cap x).2 rfl]
  simp [bx, bxL]
theorem bx_at_l (x : Bx) : bxL x = ([.int .i64 x.cap]) ++ ([sv x.l] ++ ([.bool x.lag] ++ ([.bool x.closed]))) ∧ ([.int .i64 x.cap] : List Value).length = 1 := by
  constructor
  · unfold bxL; simp
  · simp
theorem bx_get_l (x : Bx) : (bx x)[1]? = some (sv x.l) := get_at (bx_at_l x).1 (bx_at_l x).2
@[go_sem] theorem bx_gi_l (x : Bx) (h : 1 < (bx x).size) : (bx x)[1]'h = sv x.l := by have := bx_get_l x; rw [Array.getElem?_eq_getElem h] at this; exact Option.some.inj this
theorem bx_rd_l {w : World} {b off : Nat} {x : Bx} (h : w.rangeAt b off (bxL x)) : w.cell? ⟨b, off + 1, none⟩ = some (sv x.l) := range_one h (bx_at_l x).1 (bx_at_l x).2
theorem bx_rd0_l {w : World} {g : Nat} {t : TypeId} {fr : Nat × Nat} {x : Bx} (h : w.heap[g]? = some (.cells (bx x) t fr)) : w.cell? ⟨g, 1, none⟩ = some (sv x.l) := by have := bx_rd_l (x := x) (range_block h); rwa [Nat.zero_add] at this
theorem bx_put_l (x : Bx) (y : SlV) : putSeg (bx x) 1 #[sv y] = bx { x with l := y } := by
  rw [putSeg_mid (c := bx x) (r := #[sv y]) (bx_at_l x).1 (bx_at_l x).2 rfl]
  simp [bx, bxL]
theorem bx_at_lag (x : Bx) : bxL x = ([.int .i64 x.cap] ++ [sv x.l]) ++ ([.bool x.lag] ++ ([.bool x.closed])) ∧ ([.int .i64 x.cap] ++ [sv x.l] : List Value).length = 2 := by
  constructor
  · unfold bxL; simp
  · simp
theorem bx_get_lag (x : Bx) : (bx x)[2]? = some (.bool x.lag) := get_at (bx_at_lag x).1 (bx_at_lag x).2
@[go_sem] theorem bx_gi_lag (x : Bx) (h : 2 < (bx x).size) : (bx x)[2]'h = .bool x.lag := by have := bx_get_lag x; rw [Array.getElem?_eq_getElem h] at this; exact Option.some.inj this
theorem bx_rd_lag {w : World} {b off : Nat} {x : Bx} (h : w.rangeAt b off (bxL x)) : w.cell? ⟨b, off + 2, none⟩ = some (.bool x.lag) := range_one h (bx_at_lag x).1 (bx_at_lag x).2
theorem bx_rd0_lag {w : World} {g : Nat} {t : TypeId} {fr : Nat × Nat} {x : Bx} (h : w.heap[g]? = some (.cells (bx x) t fr)) : w.cell? ⟨g, 2, none⟩ = some (.bool x.lag) := by have := bx_rd_lag (x := x) (range_block h); rwa [Nat.zero_add] at this
theorem bx_put_lag (x : Bx) (y : Bool) : putSeg (bx x) 2 #[.bool y] = bx { x with lag := y } := by
  rw [putSeg_mid (c := bx x) (r := #[.bool y]) (bx_at_lag x).1 (bx_at_lag x).2 rfl]
  simp [bx, bxL]
theorem bx_at_closed (x : Bx) : bxL x = ([.int .i64 x.cap] ++ [sv x.l] ++ [.bool x.lag]) ++ ([.bool x.closed] ++ ([])) ∧ ([.int .i64 x.cap] ++ [sv x.l] ++ [.bool x.lag] : List Value).length = 3 := by
  constructor
  · unfold bxL; simp
  · simp
theorem bx_get_closed (x : Bx) : (bx x)[3]? = some (.bool x.closed) := get_at (bx_at_closed x).1 (bx_at_closed x).2
@[go_sem] theorem bx_gi_closed (x : Bx) (h : 3 < (bx x).size) : (bx x)[3]'h = .bool x.closed := by have := bx_get_closed x; rw [Array.getElem?_eq_getElem h] at this; exact Option.some.inj this
theorem bx_rd_closed {w : World} {b off : Nat} {x : Bx} (h : w.rangeAt b off (bxL x)) : w.cell? ⟨b, off + 3, none⟩ = some (.bool x.closed) := range_one h (bx_at_closed x).1 (bx_at_closed x).2
theorem bx_rd0_closed {w : World} {g : Nat} {t : TypeId} {fr : Nat × Nat} {x : Bx} (h : w.heap[g]? = some (.cells (bx x) t fr)) : w.cell? ⟨g, 3, none⟩ = some (.bool x.closed) := by have := bx_rd_closed (x := x) (range_block h); rwa [Nat.zero_add] at this
theorem bx_put_closed (x : Bx) (y : Bool) : putSeg (bx x) 3 #[.bool y] = bx { x with closed := y } := by
  rw [putSeg_mid (c := bx x) (r := #[.bool y]) (bx_at_closed x).1 (bx_at_closed x).2 rfl]
  simp [bx, bxL]
@[go_sem] theorem bx_set_cap (x : Bx) (y : Int) : (bx x).setIfInBounds 0 (.int .i64 y) = bx { x with cap := y } := by
  rw [setIfInBounds_seg (by rw [bx_size]; decide)]; exact bx_put_cap x y
@[go_sem] theorem bx_set_l (x : Bx) (y : SlV) : (bx x).setIfInBounds 1 (sv y) = bx { x with l := y } := by
  rw [setIfInBounds_seg (by rw [bx_size]; decide)]; exact bx_put_l x y
@[go_sem] theorem bx_sets_l (x : Bx) (p : Option Addr) (k c : Nat) : (bx x).setIfInBounds 1 (.slice p k c) = bx { x with l := ⟨p, k, c⟩ } := by
  rw [setIfInBounds_seg (by rw [bx_size]; decide)]; exact bx_put_l x ⟨p, k, c⟩
@[go_sem] theorem bx_set_lag (x : Bx) (y : Bool) : (bx x).setIfInBounds 2 (.bool y) = bx { x with lag := y } := by
  rw [setIfInBounds_seg (by rw [bx_size]; decide)]; exact bx_put_lag x y
@[go_sem] theorem bx_set_closed (x : Bx) (y : Bool) : (bx x).setIfInBounds 3 (.bool y) = bx { x with closed := y } := by
  rw [setIfInBounds_seg (by rw [bx_size]; decide)]; exact bx_put_closed x y
attribute [go_sem] bx_put_cap bx_put_l bx_put_lag bx_put_closed
theorem cellsOf_bx : Try.prog.cellsOf 24 = 4 := by kernel_rfl
section
open Go.WideShapes Go.ChangeShapes
variable {H : Type} {enc : TypeId × Value → H} {w : World} {base : Nat} {sp : Nat → Bool} {held : Bool}
theorem cells_bx {fuel : Nat} {cs : List Value} {x : DataW H × List MemPlace} (hl : cs.length = 4) (h : DataW.trod enc Try.prog w base sp held fuel 24 cs = some x) : ∃ a : Bx, cs = bxL a ∧ (∃ l, SlE Ent w (sv a.l) l) := by
  obtain ⟨_, _, h0⟩ := trod_field (i := 0) under_bx flds_bx rfl h
  rw [cellsOf_int] at h0
  obtain ⟨a0, e0⟩ := cells_int h0
  obtain ⟨_, _, h1⟩ := trod_field (i := 1) under_bx flds_bx rfl h
  rw [show Try.prog.cellsOf 22 = 1 from by kernel_rfl] at h1
  obtain ⟨a1, e1, k1⟩ := cells_nts h1
  obtain ⟨_, _, h2⟩ := trod_field (i := 2) under_bx flds_bx rfl h
  rw [cellsOf_boo] at h2
  obtain ⟨a2, e2⟩ := cells_boo h2
  obtain ⟨_, _, h3⟩ := trod_field (i := 3) under_bx flds_bx rfl h
  rw [cellsOf_boo] at h3
  obtain ⟨a3, e3⟩ := cells_boo h3
  refine ⟨⟨a0, a1, a2, a3⟩, ?_, k1⟩
  unfold bxL
  have j0 := seg_join cs 0 1
  rw [e0] at j0
  have j1 := seg_join cs 1 1
  rw [e1] at j1
  have j2 := seg_join cs 2 1
  rw [e2] at j2
  have j3 := seg_join cs 3 1
  rw [e3] at j3
  have jl : cs.drop 4 = [] := List.drop_of_length_le (by omega)
  rw [show (3 + 1) = 4 from rfl, jl, List.append_nil] at j3
  rw [← List.drop_zero (l := cs)]
  rw [← j0]
  rw [show cs.drop (0 + 1) = cs.drop 1 from rfl, ← j1]
  rw [show cs.drop (1 + 1) = cs.drop 2 from rfl, ← j2]
  rw [show cs.drop (2 + 1) = cs.drop 3 from rfl, ← j3]
  try rfl
theorem open_bx {r : Reach} {b0 : Nat} {v : Value} {d : DataW H} {ps : List MemPlace} (hval : Value.okWide Try.prog w r b0 24 v) (hd : DataW.Trod enc Try.prog w base sp held 24 v d ps) : ∃ a : Bx, v = .agg (bx a) ∧ (∃ l, SlE Ent w (sv a.l) l) := by
  obtain ⟨xs, rfl, hn⟩ := okWide_struct under_bx hval
  rw [cellsOf_bx] at hn
  obtain ⟨fuel, hf⟩ := hd
  obtain ⟨a, ha, k1⟩ := cells_bx (cs := xs.toList) (by rw [Array.length_toList, hn]) hf
  exact ⟨a, by rw [show xs = bx a from Array.toList_inj.1 ha], k1⟩
end
def Ebx : Lie Bx := ⟨24, 4, bxL, by decide, bx_len, bx_one⟩
attribute [irreducible] bx
end Go.Proofs.Ytiljgnhnpoackaa
