/-
  api.Node: its plain data, its cells, loads, stores, literals, ==, its parts in memory, an argument; in any translation that has it. (written by wip/mkstruct.py)
  []api.Node: append, s[n:], an argument; in any translation that has it. (written by wip/mkslice.py)
-/
import Derived.Test.YtlhnjaeocoafnaaQ07
import Derived.Test.YtlhnjaeocoafnaaQ03
import Derived.Test.YtlhnjaeocoafnaaQ12
namespace Go.Proofs.Ytlhnjaeocoafnaa
open Go.RowKit
set_option maxRecDepth 100000

def neL (x : Nd) : List Value := (rc x.root).toList ++ ([.int .i64 x.parent] ++ ([num x.slot] ++ ([num x.just])))
def ne (x : Nd) : Array Value := (neL x).toArray
theorem ne_list (x : Nd) : (ne x).toList = neL x := rfl
theorem ne_len (x : Nd) : (neL x).length = 35 := by simp [neL, rc_size]
theorem ne_size (x : Nd) : (ne x).size = 35 := by rw [← Array.length_toList, ne_list, ne_len]
theorem ne_one (x : Nd) : ∀ v ∈ neL x, v.oneCell' = true := by
  intro v hv
  unfold neL at hv
  simp only [List.mem_append, List.mem_singleton] at hv
  rcases hv with hv | rfl | rfl | rfl
  · exact rc_ones _ v hv
  · rfl
  · rfl
  · rfl
@[go_sem] theorem okA_ne (x : Nd) : okA 35 (.agg (ne x)) = true := by
  show ((ne x).size == 35 && (ne x).all (·.oneCell')) = true
  rw [show (ne x).all (·.oneCell') = true from all_one (ne_one x), ne_size]; rfl
def zne : Nd := ⟨zr, 0, 0, 0⟩
theorem zero_ne (w : World) : (zeroValue 73).run Try.prog w = .ok (.agg (ne zne)) w := by kernel_rfl
@[go_sem ↓] theorem load_ne (ρ : Operand → Value) (dst : Option Tmp) (x : Operand) (ty : TypeId) (pos : String) (after : Array Edge) (guard : Option (Nat × Bool)) (w : World) :
    (execOp ρ { dst, op := .load 73 x, type := ty, pos, after, guard }).run Try.prog w = ldOut (ldA w (ρ x) 35) w (opRest Try.prog ρ { dst, op := .load 73 x, type := ty, pos, after, guard } w) :=
  run_load_out Try.isAgg73 Try.sizeOf73 ρ dst x ty pos after guard w
@[go_sem ↓] theorem store_ne (ρ : Operand → Value) (dst : Option Tmp) (x y : Operand) (ty : TypeId) (pos : String) (after : Array Edge) (guard : Option (Nat × Bool)) (w : World) :
    (execOp ρ { dst, op := .store 73 x y, type := ty, pos, after, guard }).run Try.prog w = stOut (wrA w (ρ x) 35 && okA 35 (ρ y)) (stA w (ρ x) (ρ y)) (opRest Try.prog ρ { dst, op := .store 73 x y, type := ty, pos, after, guard } w) :=
  run_store_out Try.sizeOf73 ρ dst x y ty pos after guard w
@[go_sem ↓] theorem alloc_ne (ρ : Operand → Value) (dst : Option Tmp) (ty : TypeId) (pos : String) (after : Array Edge) (guard : Option (Nat × Bool)) (w : World) :
    (execOp ρ { dst, op := .alloc 73, type := ty, pos, after, guard }).run Try.prog w = .ok (.value (.pointer (some ⟨w.heap.size, 0, none⟩))) (w.alloc (.cells (ne zne) 73)) := by
  unfold execOp
  simp only [Instr.alloc, Sem.run_bind, zero_ne, Result.andThen_ok]
  rfl
def places_ne : List (Nat × Nat) := [(0, 32), (32, 1), (33, 1), (34, 1)]
theorem fields_ne : ∀ w : World, ((Try.prog.fieldsOf 73).mapM (m := Sem) fun f => do pure (f.offset, ← Go.sizeOf f.type)).run Try.prog w = .ok places_ne.toArray w := fun _ => by kernel_rfl
theorem under_ne : Try.prog.underlying 73 = some (.struct (Try.prog.fieldsOf 73)) := by kernel_rfl
theorem flds_ne : (Try.prog.fieldsOf 73).toList.map (fun f => (f.name, f.type, f.offset)) = [("Root", 30, 0), ("Parent", 3, 32), ("Slot", 28, 33), ("Just", 28, 34)] := by kernel_rfl
@[go_sem ↓] theorem build_ne (ρ : Operand → Value) (dst : Option Tmp) (p : Nat × Operand) (ps : List (Nat × Operand)) (ty : TypeId) (pos : String) (after : Array Edge) (guard : Option (Nat × Bool)) (w : World) :
    (execOp ρ { dst, op := .build 73 (p :: ps).toArray, type := ty, pos, after, guard }).run Try.prog w = vOutE ((fillA places_ne (ne zne) ((p.1, ρ p.2) :: ps.map fun p => (p.1, ρ p.2))).map .agg) w (opRest Try.prog ρ { dst, op := .build 73 (p :: ps).toArray, type := ty, pos, after, guard } w) :=
  build_out zero_ne under_ne fields_ne ρ dst (p :: ps).toArray ty pos after guard w
@[go_sem ↓] theorem build0_ne (ρ : Operand → Value) (dst : Option Tmp) (ty : TypeId) (pos : String) (after : Array Edge) (guard : Option (Nat × Bool)) (w : World) :
    (execOp ρ { dst, op := .build 73 #[], type := ty, pos, after, guard }).run Try.prog w = .ok (.value (.agg (ne zne))) w :=
  build_out zero_ne under_ne fields_ne ρ dst #[] ty pos after guard w
attribute [go_sem] places_ne ne_size
theorem ne_at_root (x : Nd) : neL x = ([]) ++ ((rc x.root).toList ++ ([.int .i64 x.parent] ++ ([num x.slot] ++ ([num x.just])))) ∧ ([] : List Value).length = 0 := by
  constructor
  · unfold neL; simp
  · rfl
theorem ne_get_root (x : Nd) : (ne x).extract 0 (0 + 32) = rc x.root := extract_mid (ne_at_root x).1 (ne_at_root x).2 (rc_size _)
theorem ne_rd_root {w : World} {b off : Nat} {x : Nd} (h : w.rangeAt b off (neL x)) : ldA w (.pointer (some ⟨b, off + 0, none⟩)) 32 = some (rc x.root) := range_ldA h (ne_at_root x).1 (ne_at_root x).2 (rc_size _)
theorem ne_rd0_root {w : World} {g : Nat} {t : TypeId} {fr : Nat × Nat} {x : Nd} (h : w.heap[g]? = some (.cells (ne x) t fr)) : ldA w (.pointer (some ⟨g, 0, none⟩)) 32 = some (rc x.root) := by have := ne_rd_root (x := x) (range_block h); rwa [Nat.zero_add] at this
@[go_sem] theorem ne_lda_root (w : World) (t : TypeId) (b : Nat) (x : Nd) (hb : b = w.heap.size) : ldA (w.alloc (.cells (ne x) t)) (.pointer (some ⟨b, 0, none⟩)) 32 = some (rc x.root) := by subst hb; exact ne_rd0_root (heap_alloc_last w _)
theorem ne_put_root (x : Nd) (y : Rt) : putSeg (ne x) 0 (rc y) = ne { x with root := y } := by
  rw [putSeg_mid (c := ne x) (ne_at_root x).1 (ne_at_root x).2 (by simp [rc_size])]
  simp [ne, neL]
theorem ne_at_parent (x : Nd) : neL x = ((rc x.root).toList) ++ ([.int .i64 x.parent] ++ ([num x.slot] ++ ([num x.just]))) ∧ ((rc x.root).toList : List Value).length = 32 := by
  constructor
  · unfold neL; simp
  · simp [rc_size]
theorem ne_get_parent (x : Nd) : (ne x)[32]? = some (.int .i64 x.parent) := get_at (ne_at_parent x).1 (ne_at_parent x).2
@[go_sem] theorem ne_gi_parent (x : Nd) (h : 32 < (ne x).size) : (ne x)[32]'h = .int .i64 x.parent := by have := ne_get_parent x; rw [Array.getElem?_eq_getElem h] at this; exact Option.some.inj this
theorem ne_rd_parent {w : World} {b off : Nat} {x : Nd} (h : w.rangeAt b off (neL x)) : w.cell? ⟨b, off + 32, none⟩ = some (.int .i64 x.parent) := range_one h (ne_at_parent x).1 (ne_at_parent x).2
theorem ne_rd0_parent {w : World} {g : Nat} {t : TypeId} {fr : Nat × Nat} {x : Nd} (h : w.heap[g]? = some (.cells (ne x) t fr)) : w.cell? ⟨g, 32, none⟩ = some (.int .i64 x.parent) := by have := ne_rd_parent (x := x) (range_block h); rwa [Nat.zero_add] at this
theorem ne_put_parent (x : Nd) (y : Int) : putSeg (ne x) 32 #[.int .i64 y] = ne { x with parent := y } := by
  rw [putSeg_mid (c := ne x) (r := #[.int .i64 y]) (ne_at_parent x).1 (ne_at_parent x).2 rfl]
  simp [ne, neL]
theorem ne_at_slot (x : Nd) : neL x = ((rc x.root).toList ++ [.int .i64 x.parent]) ++ ([num x.slot] ++ ([num x.just])) ∧ ((rc x.root).toList ++ [.int .i64 x.parent] : List Value).length = 33 := by
  constructor
  · unfold neL; simp
  · simp [rc_size]
theorem ne_get_slot (x : Nd) : (ne x)[33]? = some (num x.slot) := get_at (ne_at_slot x).1 (ne_at_slot x).2
@[go_sem] theorem ne_gi_slot (x : Nd) (h : 33 < (ne x).size) : (ne x)[33]'h = num x.slot := by have := ne_get_slot x; rw [Array.getElem?_eq_getElem h] at this; exact Option.some.inj this
theorem ne_rd_slot {w : World} {b off : Nat} {x : Nd} (h : w.rangeAt b off (neL x)) : w.cell? ⟨b, off + 33, none⟩ = some (num x.slot) := range_one h (ne_at_slot x).1 (ne_at_slot x).2
theorem ne_rd0_slot {w : World} {g : Nat} {t : TypeId} {fr : Nat × Nat} {x : Nd} (h : w.heap[g]? = some (.cells (ne x) t fr)) : w.cell? ⟨g, 33, none⟩ = some (num x.slot) := by have := ne_rd_slot (x := x) (range_block h); rwa [Nat.zero_add] at this
theorem ne_put_slot (x : Nd) (y : UInt64) : putSeg (ne x) 33 #[num y] = ne { x with slot := y } := by
  rw [putSeg_mid (c := ne x) (r := #[num y]) (ne_at_slot x).1 (ne_at_slot x).2 rfl]
  simp [ne, neL]
theorem ne_at_just (x : Nd) : neL x = ((rc x.root).toList ++ [.int .i64 x.parent] ++ [num x.slot]) ++ ([num x.just] ++ ([])) ∧ ((rc x.root).toList ++ [.int .i64 x.parent] ++ [num x.slot] : List Value).length = 34 := by
  constructor
  · unfold neL; simp
  · simp [rc_size]
theorem ne_get_just (x : Nd) : (ne x)[34]? = some (num x.just) := get_at (ne_at_just x).1 (ne_at_just x).2
@[go_sem] theorem ne_gi_just (x : Nd) (h : 34 < (ne x).size) : (ne x)[34]'h = num x.just := by have := ne_get_just x; rw [Array.getElem?_eq_getElem h] at this; exact Option.some.inj this
theorem ne_rd_just {w : World} {b off : Nat} {x : Nd} (h : w.rangeAt b off (neL x)) : w.cell? ⟨b, off + 34, none⟩ = some (num x.just) := range_one h (ne_at_just x).1 (ne_at_just x).2
theorem ne_rd0_just {w : World} {g : Nat} {t : TypeId} {fr : Nat × Nat} {x : Nd} (h : w.heap[g]? = some (.cells (ne x) t fr)) : w.cell? ⟨g, 34, none⟩ = some (num x.just) := by have := ne_rd_just (x := x) (range_block h); rwa [Nat.zero_add] at this
theorem ne_put_just (x : Nd) (y : UInt64) : putSeg (ne x) 34 #[num y] = ne { x with just := y } := by
  rw [putSeg_mid (c := ne x) (r := #[num y]) (ne_at_just x).1 (ne_at_just x).2 rfl]
  simp [ne, neL]
@[go_sem] theorem ne_set_parent (x : Nd) (y : Int) : (ne x).setIfInBounds 32 (.int .i64 y) = ne { x with parent := y } := by
  rw [setIfInBounds_seg (by rw [ne_size]; decide)]; exact ne_put_parent x y
@[go_sem] theorem ne_set_slot (x : Nd) (y : UInt64) : (ne x).setIfInBounds 33 (num y) = ne { x with slot := y } := by
  rw [setIfInBounds_seg (by rw [ne_size]; decide)]; exact ne_put_slot x y
@[go_sem] theorem ne_setn_slot (x : Nd) (y : UInt64) : (ne x).setIfInBounds 33 (.int .u64 (y.toNat : Int)) = ne { x with slot := y } := by
  rw [setIfInBounds_seg (by rw [ne_size]; decide)]; exact ne_put_slot x y
@[go_sem] theorem ne_set_just (x : Nd) (y : UInt64) : (ne x).setIfInBounds 34 (num y) = ne { x with just := y } := by
  rw [setIfInBounds_seg (by rw [ne_size]; decide)]; exact ne_put_just x y
@[go_sem] theorem ne_setn_just (x : Nd) (y : UInt64) : (ne x).setIfInBounds 34 (.int .u64 (y.toNat : Int)) = ne { x with just := y } := by
  rw [setIfInBounds_seg (by rw [ne_size]; decide)]; exact ne_put_just x y
attribute [go_sem] ne_put_root ne_put_parent ne_put_slot ne_put_just
@[go_sem] theorem ne_putn_slot (x : Nd) (y : UInt64) : putSeg (ne x) 33 #[.int .u64 (y.toNat : Int)] = ne { x with slot := y } := ne_put_slot x y
@[go_sem] theorem ne_putn_just (x : Nd) (y : UInt64) : putSeg (ne x) 34 #[.int .u64 (y.toNat : Int)] = ne { x with just := y } := ne_put_just x y
theorem part_ne (c : Array Value) (o : Nat) (r : Nd) (h : c.extract o (o + 35) = ne r) (w : World) : (part 73 c o).run Try.prog w = .ok (.agg (ne r)) w := by
  rw [part_agg (P := Try.prog) Try.isAgg73 Try.sizeOf73, h]
theorem eq_neN (d : Nat) (x y : Nd) (w : World) : (Op.equalIn (d + 3) 73 (.agg (ne x)) (.agg (ne y))).run Try.prog w = .ok (decide (x = y)) w := by
  rw [show d + 3 = (d + 2) + 1 from rfl, run_equalIn_struct w (d + 2) _ _ _ under_ne (by kernel_rfl)]
  rw [eqF_cons flds_ne (by decide) (partR _ _ _ (ne_get_root x) w) (partR _ _ _ (ne_get_root y) w) (eqRtN (d + 0) _ _ w)
    (fun _ h1 => eqF_cons h1 (by decide) (partI _ _ _ (ne_get_parent x) w) (partI _ _ _ (ne_get_parent y) w) (eqInt (d + 1) _ _ w)
    (fun _ h2 => eqF_cons h2 (by decide) (partN _ _ _ (ne_get_slot x) w) (partN _ _ _ (ne_get_slot y) w) (eqNum (d + 1) _ _ w)
    (fun _ h3 => eqF_cons h3 (by decide) (partN _ _ _ (ne_get_just x) w) (partN _ _ _ (ne_get_just y) w) (eqNum (d + 1) _ _ w)
    (fun _ hn => eqF_nil hn))))]
  congr 1
  rw [Bool.eq_iff_iff]
  simp only [Bool.and_eq_true, decide_eq_true_iff, and_true]
  exact ⟨fun h => Nd.ext h.1 h.2.1 h.2.2.1 h.2.2.2, fun h => by subst h; exact ⟨rfl, rfl, rfl, rfl⟩⟩
@[go_sem ↓] theorem eq_ne (x y : Nd) (w : World) : (Op.equalIn 10000 73 (.agg (ne x)) (.agg (ne y))).run Try.prog w = .ok (decide (x = y)) w := eq_neN 9997 x y w
theorem cellsOf_ne : Try.prog.cellsOf 73 = 35 := by kernel_rfl
section
open Go.WideShapes Go.ChangeShapes
variable {H : Type} {enc : TypeId × Value → H} {w : World} {base : Nat} {sp : Nat → Bool} {held : Bool}
set_option maxRecDepth 100000 in
theorem cells_ne {fuel : Nat} {cs : List Value} {x : DataW H × List MemPlace} (hl : cs.length = 35) (h : DataW.trod enc Try.prog w base sp held fuel 73 cs = some x) : ∃ a : Nd, cs = neL a := by
  obtain ⟨_, _, h0⟩ := trod_field (i := 0) under_ne flds_ne rfl h
  rw [cellsOf_root] at h0
  obtain ⟨a0, e0⟩ := cells_root h0
  obtain ⟨_, _, h1⟩ := trod_field (i := 1) under_ne flds_ne rfl h
  rw [cellsOf_int] at h1
  obtain ⟨a1, e1⟩ := cells_int h1
  obtain ⟨_, _, h2⟩ := trod_field (i := 2) under_ne flds_ne rfl h
  rw [cellsOf_num] at h2
  obtain ⟨a2, e2⟩ := cells_num h2
  obtain ⟨_, _, h3⟩ := trod_field (i := 3) under_ne flds_ne rfl h
  rw [cellsOf_num] at h3
  obtain ⟨a3, e3⟩ := cells_num h3
  refine ⟨⟨a0, a1, a2, a3⟩, ?_⟩
  unfold neL
  have j0 := seg_join cs 0 32
  rw [e0] at j0
  have j1 := seg_join cs 32 1
  rw [e1] at j1
  have j2 := seg_join cs 33 1
  rw [e2] at j2
  have j3 := seg_join cs 34 1
  rw [e3] at j3
  have jl : cs.drop 35 = [] := List.drop_of_length_le (by omega)
  rw [show (34 + 1) = 35 from rfl, jl, List.append_nil] at j3
  rw [← List.drop_zero (l := cs)]
  rw [← j0]
  rw [show cs.drop (0 + 32) = cs.drop 32 from rfl, ← j1]
  rw [show cs.drop (32 + 1) = cs.drop 33 from rfl, ← j2]
  rw [show cs.drop (33 + 1) = cs.drop 34 from rfl, ← j3]
  try rfl
set_option maxRecDepth 100000 in
theorem open_ne {r : Reach} {b0 : Nat} {v : Value} {d : DataW H} {ps : List MemPlace} (hval : Value.okWide Try.prog w r b0 73 v) (hd : DataW.Trod enc Try.prog w base sp held 73 v d ps) : ∃ a : Nd, v = .agg (ne a) := by
  obtain ⟨xs, rfl, hn⟩ := okWide_struct under_ne hval
  rw [cellsOf_ne] at hn
  obtain ⟨fuel, hf⟩ := hd
  obtain ⟨a, ha⟩ := cells_ne (cs := xs.toList) (by rw [Array.length_toList, hn]) hf
  exact ⟨a, by rw [show xs = ne a from Array.toList_inj.1 ha]⟩
end
def Ene : Lie Nd := ⟨73, 35, neL, by decide, ne_len, ne_one⟩
attribute [irreducible] ne
end Go.Proofs.Ytlhnjaeocoafnaa
namespace Go.Proofs.Ytlhnjaeocoafnaa
open Go.RowKit
set_option maxRecDepth 100000
theorem info_ne : (Try.prog.info? 73).map (fun i => (i.zero, i.size, i.bytes)) = some (some (.agg (ne zne)), 35, 56) := by kernel_rfl
theorem Kne : Known Try.prog Ene 22 := ⟨Try.underlying22, .agg (ne zne), 56, info_ne, by show ((ne zne)).size = _; exact ne_size _, by decide⟩
@[go_sem ↓] theorem slice_from_ne (ρ : Operand → Value) (dst : Option Tmp) (x lo : Operand) (ty : TypeId) (pos : String) (after : Array Edge) (guard : Option (Nat × Bool)) (w : World) :
    (execOp ρ { dst, op := .slice 22 x (some lo) none none, type := ty, pos, after, guard }).run Try.prog w = vOutE (cutFE 35 (ρ x) (ρ lo)) w (opRest Try.prog ρ { dst, op := .slice 22 x (some lo) none none, type := ty, pos, after, guard } w) :=
  slice_from_E Try.underlying22 Try.sizeOf73 ρ dst x lo ty pos after guard w
@[go_sem ↓] theorem buildSlice_ne (ρ : Operand → Value) (dst : Option Tmp) (x : Operand) (ty : TypeId) (pos : String) (after : Array Edge) (guard : Option (Nat × Bool)) (w : World) (hx : okA 35 (ρ x) = true) :
    (execOp ρ { dst, op := .buildSlice 22 1 #[(0, x)], type := ty, pos, after, guard }).run Try.prog w = .ok (.value (.slice (some ⟨w.heap.size, 0, none⟩) 1 1)) (w.alloc (.cells (cellsA (ρ x)) 73)) := by
  obtain ⟨c, hc, hn⟩ : ∃ c, ρ x = .agg c ∧ c.size = 35 := by
    unfold okA at hx
    split at hx
    · rename_i c hc
      rw [Bool.and_eq_true, beq_iff_eq] at hx
      exact ⟨c, hc, hx.1⟩
    · cases hx
  have hp : (1 * 35 > 2 ^ 24) = False := by simp
  have h0 : (1 * 35 = 0) = False := by simp
  unfold execOp
  simp only [Instr.buildSlice, Sem.run_bind, run_underlying Try.underlying22, Result.andThen_ok, Try.sizeOf73, hp, h0, if_false, zero_ne, Value.cells]
  simp only [List.map_toArray, List.map_cons, List.map_nil, hc, Instr.fill, Value.cells, hn, Nat.zero_mul]
  simp [cellsA]
  rw [foldl_zip _ c (by simp [hn])]
  rfl
section
open Go.WideShapes Go.ChangeShapes
variable {H : Type} {enc : TypeId × Value → H} {w : World} {base : Nat} {sp : Nat → Bool} {held : Bool}
set_option maxRecDepth 100000 in
/-- A slice's one cell. -/
theorem cell_nes {fuel : Nat} {v : Value} {x : DataW H × List MemPlace} (h : DataW.trod enc Try.prog w base sp held fuel 22 [v] = some x) : ∃ l : List Nd, SlE Ene w v l :=
  cells_E Try.underlying22 cellsOf_ne (fun _ cs _ h => cells_ne (by obtain ⟨_, _, _, _, hl, _⟩ := DataW.trod_struct under_ne h; rw [hl, cellsOf_ne]) h) h
set_option maxRecDepth 100000 in
theorem cells_nes {fuel : Nat} {cs : List Value} {x : DataW H × List MemPlace} (h : DataW.trod enc Try.prog w base sp held fuel 22 cs = some x) : ∃ s : SlV, cs = [sv s] ∧ ∃ l : List Nd, SlE Ene w (sv s) l := by
  rcases Deep.open_slice Try.underlying22 h with ⟨h1, _⟩ | ⟨a', len', cap', _, _, _, _, h1, _⟩
  · subst h1
    exact ⟨⟨none, 0, 0⟩, rfl, [], slE_nil _ _ _ _⟩
  · subst h1
    exact ⟨⟨some a', len', cap'⟩, rfl, cell_nes h⟩
set_option maxRecDepth 100000 in
theorem open_nes {r : Reach} {b0 : Nat} {v : Value} {d : DataW H} {ps : List MemPlace} (hval : Value.okWide Try.prog w r b0 22 v) (hd : DataW.Trod enc Try.prog w base sp held 22 v d ps) : ∃ l : List Nd, SlE Ene w v l := by
  obtain ⟨a, len, cap, rfl⟩ := okWide_slice Try.underlying22 hval
  obtain ⟨fuel, hf⟩ := hd
  exact cell_nes hf
end
end Go.Proofs.Ytlhnjaeocoafnaa
