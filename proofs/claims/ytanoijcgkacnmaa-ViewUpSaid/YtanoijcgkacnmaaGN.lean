/-
  api.Node: its plain data, its cells, loads, stores, literals, ==, its parts in memory, an argument; in any translation that has it. (written by wip/mkstruct.py)
  []api.Node: append, s[n:], an argument; in any translation that has it. (written by wip/mkslice.py)
  api.Tree: its plain data, its cells, loads, stores, literals, ==, its parts in memory, an argument; in any translation that has it. (written by wip/mkstruct.py)
  Trees in memory.
-/
import Derived.Test.YtanoijcgkacnmaaPr
import Derived.Test.YtanoijcgkacnmaaGV
import Derived.Test.YtanoijcgkacnmaaSv
import Derived.Test.YtanoijcgkacnmaaMem
namespace Go.Proofs.Ytanoijcgkacnmaa
open Go.RowKit

def neL (x : Nd) : List Value := (rc x.root).toList ++ ([.int .i64 x.parent] ++ ([num x.slot] ++ ([num x.just])))
def ne (x : Nd) : Array Value := (neL x).toArray
theorem ne_list (x : Nd) : (ne x).toList = neL x := rfl
theorem ne_len (x : Nd) : (neL x).length = 35 := by simp [neL, rc_size]
theorem ne_size (x : Nd) : (ne x).size = 35 := by rw [← Array.length_toList, ne_list, ne_len]
theorem ne_one (x : Nd) : ∀ v ∈ neL x, v.oneCell' = true := by
  intro v hv
  unfold neL at hv
  simp only [List.mem_append, List.mem_singleton] at hv
  rcases hv with hv | rfl | rfl | rfl
  · exact rc_ones _ v hv
  · rfl
  · rfl
  · rfl
@[go_sem] theorem okA_ne (x : Nd) : okA 35 (.agg (ne x)) = true := by
  show ((ne x).size == 35 && (ne x).all (·.oneCell')) = true
  rw [show (ne x).all (·.oneCell') = true from all_one (ne_one x), ne_size]; rfl
def zne : Nd := ⟨zr, 0, 0, 0⟩
theorem zero_ne (w : World) : (zeroValue 43).run Try.prog w = .ok (.agg (ne zne)) w := by kernel_rfl
@[go_sem ↓] theorem load_ne (ρ : Operand → Value) (dst : Option Tmp) (x : Operand) (ty : TypeId) (pos : String) (after : Array Edge) (guard : Option (Nat × Bool)) (w : World) :
    (execOp ρ { dst, op := .load 43 x, type := ty, pos, after, guard }).run Try.prog w = ldOut (ldA w (ρ x) 35) w (opRest Try.prog ρ { dst, op := .load 43 x, type := ty, pos, after, guard } w) :=
  run_load_out Try.isAgg43 Try.sizeOf43 ρ dst x ty pos after guard w
@[go_sem ↓] theorem store_ne (ρ : Operand → Value) (dst : Option Tmp) (x y : Operand) (ty : TypeId) (pos : String) (after : Array Edge) (guard : Option (Nat × Bool)) (w : World) :
    (execOp ρ { dst, op := .store 43 x y, type := ty, pos, after, guard }).run Try.prog w = stOut (wrA w (ρ x) 35 && okA 35 (ρ y)) (stA w (ρ x) (ρ y)) (opRest Try.prog ρ { dst, op := .store 43 x y, type := ty, pos, after, guard } w) :=
  run_store_out Try.sizeOf43 ρ dst x y ty pos after guard w
@[go_sem ↓] theorem alloc_ne (ρ : Operand → Value) (dst : Option Tmp) (ty : TypeId) (pos : String) (after : Array Edge) (guard : Option (Nat × Bool)) (w : World) :
    (execOp ρ { dst, op := .alloc 43, type := ty, pos, after, guard }).run Try.prog w = .ok (.value (.pointer (some ⟨w.heap.size, 0, none⟩))) (w.alloc (.cells (ne zne) 43)) := by
  unfold execOp
  simp only [Instr.alloc, Sem.run_bind, zero_ne, Result.andThen_ok]
  rfl
def places_ne : List (Nat × Nat) := [(0, 32), (32, 1), (33, 1), (34, 1)]
theorem fields_ne : ∀ w : World, ((Try.prog.fieldsOf 43).mapM (m := Sem) fun f => do pure (f.offset, ← Go.sizeOf f.type)).run Try.prog w = .ok places_ne.toArray w := fun _ => by kernel_rfl
theorem under_ne : Try.prog.underlying 43 = some (.struct (Try.prog.fieldsOf 43)) := by kernel_rfl
theorem flds_ne : (Try.prog.fieldsOf 43).toList.map (fun f => (f.name, f.type, f.offset)) = [("Root", 27, 0), ("Parent", 3, 32), ("Slot", 25, 33), ("Just", 25, 34)] := by kernel_rfl
@[go_sem ↓] theorem build_ne (ρ : Operand → Value) (dst : Option Tmp) (p : Nat × Operand) (ps : List (Nat × Operand)) (ty : TypeId) (pos : String) (after : Array Edge) (guard : Option (Nat × Bool)) (w : World) :
    (execOp ρ { dst, op := .build 43 (p :: ps).toArray, type := ty, pos, after, guard }).run Try.prog w = vOutE ((fillA places_ne (ne zne) ((p.1, ρ p.2) :: ps.map fun p => (p.1, ρ p.2))).map .agg) w (opRest Try.prog ρ { dst, op := .build 43 (p :: ps).toArray, type := ty, pos, after, guard } w) :=
  build_out zero_ne under_ne fields_ne ρ dst (p :: ps).toArray ty pos after guard w
@[go_sem ↓] theorem build0_ne (ρ : Operand → Value) (dst : Option Tmp) (ty : TypeId) (pos : String) (after : Array Edge) (guard : Option (Nat × Bool)) (w : World) :
    (execOp ρ { dst, op := .build 43 #[], type := ty, pos, after, guard }).run Try.prog w = .ok (.value (.agg (ne zne))) w :=
  build_out zero_ne under_ne fields_ne ρ dst #[] ty pos after guard w
attribute [go_sem] places_ne ne_size
theorem ne_at_root (x : Nd) : neL x = ([]) ++ ((rc x.root).toList ++ ([.int .i64 x.parent] ++ ([num x.slot] ++ ([num x.just])))) ∧ ([] : List Value).length = 0 := by
  constructor
  · unfold neL; simp
  · rfl
theorem ne_get_root (x : Nd) : (ne x).extract 0 (0 + 32) = rc x.root := extract_mid (ne_at_root x).1 (ne_at_root x).2 (rc_size _)
theorem ne_rd_root {w : World} {b off : Nat} {x : Nd} (h : w.rangeAt b off (neL x)) : ldA w (.pointer (some ⟨b, off + 0, none⟩)) 32 = some (rc x.root) := range_ldA h (ne_at_root x).1 (ne_at_root x).2 (rc_size _)
theorem ne_rd0_root {w : World} {g : Nat} {t : TypeId} {fr : Nat × Nat} {x : Nd} (h : w.heap[g]? = some (.cells (ne x) t fr)) : ldA w (.pointer (some ⟨g, 0, none⟩)) 32 = some (rc x.root) := by have := ne_rd_root (x := x) (range_block h); rwa [Nat.zero_add] at this
@[go_sem] theorem ne_lda_root (w : World) (t : TypeId) (b : Nat) (x : Nd) (hb : b = w.heap.size) : ldA (w.alloc (.cells (ne x) t)) (.pointer (some ⟨b, 0, none⟩)) 32 = some (rc x.root) := by subst hb; exact ne_rd0_root (heap_alloc_last w _)
theorem ne_put_root (x : Nd) (y : Rt) : putSeg (ne x) 0 (rc y) = ne { x with root := y } := by
  rw [putSeg_mid (c := ne x) (ne_at_root x).1 (ne_at_root x).2 (by simp [rc_size])]
  simp [ne, neL]
theorem ne_at_parent (x : Nd) : neL x = ((rc x.root).toList) ++ ([.int .i64 x.parent] ++ ([num x.slot] ++ ([num x.just]))) ∧ ((rc x.root).toList : List Value).length = 32 := by
  constructor
  · unfold neL; simp
  · simp [rc_size]
theorem ne_get_parent (x : Nd) : (ne x)[32]? = some (.int .i64 x.parent) := get_at (ne_at_parent x).1 (ne_at_parent x).2
@[go_sem] theorem ne_gi_parent (x : Nd) (h : 32 < (ne x).size) : (ne x)[32]'h = .int .i64 x.parent := by have := ne_get_parent x; rw [Array.getElem?_eq_getElem h] at this; exact Option.some.inj this
theorem ne_rd_parent {w : World} {b off : Nat} {x : Nd} (h : w.rangeAt b off (neL x)) : w.cell? ⟨b, off + 32, none⟩ = some (.int .i64 x.parent) := range_one h (ne_at_parent x).1 (ne_at_parent x).2
theorem ne_rd0_parent {w : World} {g : Nat} {t : TypeId} {fr : Nat × Nat} {x : Nd} (h : w.heap[g]? = some (.cells (ne x) t fr)) : w.cell? ⟨g, 32, none⟩ = some (.int .i64 x.parent) := by have := ne_rd_parent (x := x) (range_block h); rwa [Nat.zero_add] at this
theorem ne_put_parent (x : Nd) (y : Int) : putSeg (ne x) 32 #[.int .i64 y] = ne { x with parent := y } := by
  rw [putSeg_mid (c := ne x) (r := #[.int .i64 y]) (ne_at_parent x).1 (ne_at_parent x).2 rfl]
  simp [ne, neL]
theorem ne_at_slot (x : Nd) : neL x = ((rc x.root).toList ++ [.int .i64 x.parent]) ++ ([num x.slot] ++ ([num x.just])) ∧ ((rc x.root).toList ++ [.int .i64 x.parent] : List Value).length = 33 := by
  constructor
  · unfold neL; simp
  · simp [rc_size]
theorem ne_get_slot (x : Nd) : (ne x)[33]? = some (num x.slot) := get_at (ne_at_slot x).1 (ne_at_slot x).2
@[go_sem] theorem ne_gi_slot (x : Nd) (h : 33 < (ne x).size) : (ne x)[33]'h = num x.slot := by have := ne_get_slot x; rw [Array.getElem?_eq_getElem h] at this; exact Option.some.inj this
theorem ne_rd_slot {w : World} {b off : Nat} {x : Nd} (h : w.rangeAt b off (neL x)) : w.cell? ⟨b, off + 33, none⟩ = some (num x.slot) := range_one h (ne_at_slot x).1 (ne_at_slot x).2
theorem ne_rd0_slot {w : World} {g : Nat} {t : TypeId} {fr : Nat × Nat} {x : Nd} (h : w.heap[g]? = some (.cells (ne x) t fr)) : w.cell? ⟨g, 33, none⟩ = some (num x.slot) := by have := ne_rd_slot (x := x) (range_block h); rwa [Nat.zero_add] at this
theorem ne_put_slot (x : Nd) (y : UInt64) : putSeg (ne x) 33 #[num y] = ne { x with slot := y } := by
  rw [putSeg_mid (c := ne x) (r := #[num y]) (ne_at_slot x).1 (ne_at_slot x).2 rfl]
  simp [ne, neL]
theorem ne_at_just (x : Nd) : neL x = ((rc x.root).toList ++ [.int .i64 x.parent] ++ [num x.slot]) ++ ([num x.just] ++ ([])) ∧ ((rc x.root).toList ++ [.int .i64 x.parent] ++ [num x.slot] : List Value).length = 34 := by
  constructor
  · unfold neL; simp
  · simp [rc_size]
theorem ne_get_just (x : Nd) : (ne x)[34]? = some (num x.just) := get_at (ne_at_just x).1 (ne_at_just x).2
@[go_sem] theorem ne_gi_just (x : Nd) (h : 34 < (ne x).size) : (ne x)[34]'h = num x.just := by have := ne_get_just x; rw [Array.getElem?_eq_getElem h] at this; exact Option.some.inj this
theorem ne_rd_just {w : World} {b off : Nat} {x : Nd} (h : w.rangeAt b off (neL x)) : w.cell? ⟨b, off + 34, none⟩ = some (num x.just) := range_one h (ne_at_just x).1 (ne_at_just x).2
theorem ne_rd0_just {w : World} {g : Nat} {t : TypeId} {fr : Nat × Nat} {x : Nd} (h : w.heap[g]? = some (.cells (ne x) t fr)) : w.cell? ⟨g, 34, none⟩ = some (num x.just) := by have := ne_rd_just (x := x) (range_block h); rwa [Nat.zero_add] at this
theorem ne_put_just (x : Nd) (y : UInt64) : putSeg (ne x) 34 #[num y] = ne { x with just := y } := by
  rw [putSeg_mid (c := ne x) (r := #[num y]) (ne_at_just x).1 (ne_at_just x).2 rfl]
  simp [ne, neL]
@[go_sem] theorem ne_set_parent (x : Nd) (y : Int) : (ne x).setIfInBounds 32 (.int .i64 y) = ne { x with parent := y } := by
  rw [setIfInBounds_seg (by rw [ne_size]; decide)]; exact ne_put_parent x y
@[go_sem] theorem ne_set_slot (x : Nd) (y : UInt64) : (ne x).setIfInBounds 33 (num y) = ne { x with slot := y } := by
  rw [setIfInBounds_seg (by rw [ne_size]; decide)]; exact ne_put_slot x y
@[go_sem] theorem ne_setn_slot (x : Nd) (y : UInt64) : (ne x).setIfInBounds 33 (.int .u64 (y.toNat : Int)) = ne { x with slot := y } := by
  rw [setIfInBounds_seg (by rw [ne_size]; decide)]; exact ne_put_slot x y
@[go_sem] theorem ne_set_just (x : Nd) (y : UInt64) : (ne x).setIfInBounds 34 (num y) = ne { x with just := y } := by
  rw [setIfInBounds_seg (by rw [ne_size]; decide)]; exact ne_put_just x y
@[go_sem] theorem ne_setn_just (x : Nd) (y : UInt64) : (ne x).setIfInBounds 34 (.int .u64 (y.toNat : Int)) = ne { x with just := y } := by
  rw [setIfInBounds_seg (by rw [ne_size]; decide)]; exact ne_put_just x y
attribute [go_sem] ne_put_root ne_put_parent ne_put_slot ne_put_just
@[go_sem] theorem ne_putn_slot (x : Nd) (y : UInt64) : putSeg (ne x) 33 #[.int .u64 (y.toNat : Int)] = ne { x with slot := y } := ne_put_slot x y
@[go_sem] theorem ne_putn_just (x : Nd) (y : UInt64) : putSeg (ne x) 34 #[.int .u64 (y.toNat : Int)] = ne { x with just := y } := ne_put_just x y
theorem part_ne (c : Array Value) (o : Nat) (r : Nd) (h : c.extract o (o + 35) = ne r) (w : World) : (part 43 c o).run Try.prog w = .ok (.agg (ne r)) w := by
  rw [part_agg (P := Try.prog) Try.isAgg43 Try.sizeOf43, h]
theorem eq_neN (d : Nat) (x y : Nd) (w : World) : (Op.equalIn (d + 3) 43 (.agg (ne x)) (.agg (ne y))).run Try.prog w = .ok (decide (x = y)) w := by
  rw [show d + 3 = (d + 2) + 1 from rfl, run_equalIn_struct w (d + 2) _ _ _ under_ne (by kernel_rfl)]
  rw [eqF_cons flds_ne (by decide) (partR _ _ _ (ne_get_root x) w) (partR _ _ _ (ne_get_root y) w) (eqRtN (d + 0) _ _ w)
    (fun _ h1 => eqF_cons h1 (by decide) (partI _ _ _ (ne_get_parent x) w) (partI _ _ _ (ne_get_parent y) w) (eqInt (d + 1) _ _ w)
    (fun _ h2 => eqF_cons h2 (by decide) (partN _ _ _ (ne_get_slot x) w) (partN _ _ _ (ne_get_slot y) w) (eqNum (d + 1) _ _ w)
    (fun _ h3 => eqF_cons h3 (by decide) (partN _ _ _ (ne_get_just x) w) (partN _ _ _ (ne_get_just y) w) (eqNum (d + 1) _ _ w)
    (fun _ hn => eqF_nil hn))))]
  congr 1
  rw [Bool.eq_iff_iff]
  simp only [Bool.and_eq_true, decide_eq_true_iff, and_true]
  exact ⟨fun h => Nd.ext h.1 h.2.1 h.2.2.1 h.2.2.2, fun h => by subst h; exact ⟨rfl, rfl, rfl, rfl⟩⟩
@[go_sem ↓] theorem eq_ne (x y : Nd) (w : World) : (Op.equalIn 10000 43 (.agg (ne x)) (.agg (ne y))).run Try.prog w = .ok (decide (x = y)) w := eq_neN 9997 x y w
theorem cellsOf_ne : Try.prog.cellsOf 43 = 35 := by kernel_rfl
section
open Go.WideShapes Go.ChangeShapes
variable {H : Type} {enc : TypeId × Value → H} {w : World} {base : Nat} {sp : Nat → Bool} {held : Bool}
theorem cells_ne {fuel : Nat} {cs : List Value} {x : DataW H × List MemPlace} (hl : cs.length = 35) (h : DataW.trod enc Try.prog w base sp held fuel 43 cs = some x) : ∃ a : Nd, cs = neL a := by
  obtain ⟨_, _, h0⟩ := trod_field (i := 0) under_ne flds_ne rfl h
  rw [cellsOf_root] at h0
  obtain ⟨a0, e0⟩ := cells_root h0
  obtain ⟨_, _, h1⟩ := trod_field (i := 1) under_ne flds_ne rfl h
  rw [cellsOf_int] at h1
  obtain ⟨a1, e1⟩ := cells_int h1
  obtain ⟨_, _, h2⟩ := trod_field (i := 2) under_ne flds_ne rfl h
  rw [cellsOf_num] at h2
  obtain ⟨a2, e2⟩ := cells_num h2
  obtain ⟨_, _, h3⟩ := trod_field (i := 3) under_ne flds_ne rfl h
  rw [cellsOf_num] at h3
  obtain ⟨a3, e3⟩ := cells_num h3
  refine ⟨⟨a0, a1, a2, a3⟩, ?_⟩
  unfold neL
  have j0 := seg_join cs 0 32
  rw [e0] at j0
  have j1 := seg_join cs 32 1
  rw [e1] at j1
  have j2 := seg_join cs 33 1
  rw [e2] at j2
  have j3 := seg_join cs 34 1
  rw [e3] at j3
  have jl : cs.drop 35 = [] := List.drop_of_length_le (by omega)
  rw [show (34 + 1) = 35 from rfl, jl, List.append_nil] at j3
  rw [← List.drop_zero (l := cs)]
  rw [← j0]
  rw [show cs.drop (0 + 32) = cs.drop 32 from rfl, ← j1]
  rw [show cs.drop (32 + 1) = cs.drop 33 from rfl, ← j2]
  rw [show cs.drop (33 + 1) = cs.drop 34 from rfl, ← j3]
  try rfl
theorem open_ne {r : Reach} {b0 : Nat} {v : Value} {d : DataW H} {ps : List MemPlace} (hval : Value.okWide Try.prog w r b0 43 v) (hd : DataW.Trod enc Try.prog w base sp held 43 v d ps) : ∃ a : Nd, v = .agg (ne a) := by
  obtain ⟨xs, rfl, hn⟩ := okWide_struct under_ne hval
  rw [cellsOf_ne] at hn
  obtain ⟨fuel, hf⟩ := hd
  obtain ⟨a, ha⟩ := cells_ne (cs := xs.toList) (by rw [Array.length_toList, hn]) hf
  exact ⟨a, by rw [show xs = ne a from Array.toList_inj.1 ha]⟩
end
def Ene : Lie Nd := ⟨43, 35, neL, by decide, ne_len, ne_one⟩
attribute [irreducible] ne
end Go.Proofs.Ytanoijcgkacnmaa
namespace Go.Proofs.Ytanoijcgkacnmaa
open Go.RowKit
theorem info_ne : (Try.prog.info? 43).map (fun i => (i.zero, i.size, i.bytes)) = some (some (.agg (ne zne)), 35, 56) := by kernel_rfl
theorem Kne : Known Try.prog Ene 22 := ⟨Try.underlying22, .agg (ne zne), 56, info_ne, by show ((ne zne)).size = _; exact ne_size _, by decide⟩
@[go_sem ↓] theorem slice_from_ne (ρ : Operand → Value) (dst : Option Tmp) (x lo : Operand) (ty : TypeId) (pos : String) (after : Array Edge) (guard : Option (Nat × Bool)) (w : World) :
    (execOp ρ { dst, op := .slice 22 x (some lo) none none, type := ty, pos, after, guard }).run Try.prog w = vOutE (cutFE 35 (ρ x) (ρ lo)) w (opRest Try.prog ρ { dst, op := .slice 22 x (some lo) none none, type := ty, pos, after, guard } w) :=
  slice_from_E Try.underlying22 Try.sizeOf43 ρ dst x lo ty pos after guard w
@[go_sem ↓] theorem buildSlice_ne (ρ : Operand → Value) (dst : Option Tmp) (x : Operand) (ty : TypeId) (pos : String) (after : Array Edge) (guard : Option (Nat × Bool)) (w : World) (hx : okA 35 (ρ x) = true) :
    (execOp ρ { dst, op := .buildSlice 22 1 #[(0, x)], type := ty, pos, after, guard }).run Try.prog w = .ok (.value (.slice (some ⟨w.heap.size, 0, none⟩) 1 1)) (w.alloc (.cells (cellsA (ρ x)) 43)) := by
  obtain ⟨c, hc, hn⟩ : ∃ c, ρ x = .agg c ∧ c.size = 35 := by
    unfold okA at hx
    split at hx
    · rename_i c hc
      rw [Bool.and_eq_true, beq_iff_eq] at hx
      exact ⟨c, hc, hx.1⟩
    · cases hx
  have hp : (1 * 35 > 2 ^ 24) = False := by simp
  have h0 : (1 * 35 = 0) = False := by simp
  unfold execOp
  simp only [Instr.buildSlice, Sem.run_bind, run_underlying Try.underlying22, Result.andThen_ok, Try.sizeOf43, hp, h0, if_false, zero_ne, Value.cells]
  simp only [List.map_toArray, List.map_cons, List.map_nil, hc, Instr.fill, Value.cells, hn, Nat.zero_mul]
  simp [cellsA]
  rw [foldl_zip _ c (by simp [hn])]
  rfl
section
open Go.WideShapes Go.ChangeShapes
variable {H : Type} {enc : TypeId × Value → H} {w : World} {base : Nat} {sp : Nat → Bool} {held : Bool}
/-- A slice's one cell. -/
theorem cell_nes {fuel : Nat} {v : Value} {x : DataW H × List MemPlace} (h : DataW.trod enc Try.prog w base sp held fuel 22 [v] = some x) : ∃ l : List Nd, SlE Ene w v l :=
  cells_E Try.underlying22 cellsOf_ne (fun _ cs _ h => cells_ne (by obtain ⟨_, _, _, _, hl, _⟩ := DataW.trod_struct under_ne h; rw [hl, cellsOf_ne]) h) h
theorem cells_nes {fuel : Nat} {cs : List Value} {x : DataW H × List MemPlace} (h : DataW.trod enc Try.prog w base sp held fuel 22 cs = some x) : ∃ s : SlV, cs = [sv s] ∧ ∃ l : List Nd, SlE Ene w (sv s) l := by
  rcases Deep.open_slice Try.underlying22 h with ⟨h1, _⟩ | ⟨a', len', cap', _, _, _, _, h1, _⟩
  · subst h1
    exact ⟨⟨none, 0, 0⟩, rfl, [], slE_nil _ _ _ _⟩
  · subst h1
    exact ⟨⟨some a', len', cap'⟩, rfl, cell_nes h⟩
theorem open_nes {r : Reach} {b0 : Nat} {v : Value} {d : DataW H} {ps : List MemPlace} (hval : Value.okWide Try.prog w r b0 22 v) (hd : DataW.Trod enc Try.prog w base sp held 22 v d ps) : ∃ l : List Nd, SlE Ene w v l := by
  obtain ⟨a, len, cap, rfl⟩ := okWide_slice Try.underlying22 hval
  obtain ⟨fuel, hf⟩ := hd
  exact cell_nes hf
end
end Go.Proofs.Ytanoijcgkacnmaa
namespace Go.Proofs.Ytanoijcgkacnmaa
open Go.RowKit

structure Tr where
  n : SlV
theorem Tr.ext {x y : Tr} (h0 : x.n = y.n) : x = y := by cases x; cases y; simp_all
def trL (x : Tr) : List Value := [sv x.n]
def tr (x : Tr) : Array Value := (trL x).toArray
theorem tr_list (x : Tr) : (tr x).toList = trL x := rfl
theorem tr_len (x : Tr) : (trL x).length = 1 := by simp [trL]
theorem tr_size (x : Tr) : (tr x).size = 1 := by rw [← Array.length_toList, tr_list, tr_len]
theorem tr_one (x : Tr) : ∀ v ∈ trL x, v.oneCell' = true := by
  intro v hv
  unfold trL at hv
  simp only [List.mem_singleton] at hv
  rcases hv with rfl
  · rfl
@[go_sem] theorem okA_tr (x : Tr) : okA 1 (.agg (tr x)) = true := by
  show ((tr x).size == 1 && (tr x).all (·.oneCell')) = true
  rw [show (tr x).all (·.oneCell') = true from all_one (tr_one x), tr_size]; rfl
def ztr : Tr := ⟨⟨none, 0, 0⟩⟩
theorem zero_tr (w : World) : (zeroValue 24).run Try.prog w = .ok (.agg (tr ztr)) w := by kernel_rfl
@[go_sem ↓] theorem load_tr (ρ : Operand → Value) (dst : Option Tmp) (x : Operand) (ty : TypeId) (pos : String) (after : Array Edge) (guard : Option (Nat × Bool)) (w : World) :
    (execOp ρ { dst, op := .load 24 x, type := ty, pos, after, guard }).run Try.prog w = ldOut (ldA w (ρ x) 1) w (opRest Try.prog ρ { dst, op := .load 24 x, type := ty, pos, after, guard } w) :=
  run_load_out Try.isAgg24 Try.sizeOf24 ρ dst x ty pos after guard w
@[go_sem ↓] theorem store_tr (ρ : Operand → Value) (dst : Option Tmp) (x y : Operand) (ty : TypeId) (pos : String) (after : Array Edge) (guard : Option (Nat × Bool)) (w : World) :
    (execOp ρ { dst, op := .store 24 x y, type := ty, pos, after, guard }).run Try.prog w = stOut (wrA w (ρ x) 1 && okA 1 (ρ y)) (stA w (ρ x) (ρ y)) (opRest Try.prog ρ { dst, op := .store 24 x y, type := ty, pos, after, guard } w) :=
  run_store_out Try.sizeOf24 ρ dst x y ty pos after guard w
@[go_sem ↓] theorem alloc_tr (ρ : Operand → Value) (dst : Option Tmp) (ty : TypeId) (pos : String) (after : Array Edge) (guard : Option (Nat × Bool)) (w : World) :
    (execOp ρ { dst, op := .alloc 24, type := ty, pos, after, guard }).run Try.prog w = .ok (.value (.pointer (some ⟨w.heap.size, 0, none⟩))) (w.alloc (.cells (tr ztr) 24)) := by
  unfold execOp
  simp only [Instr.alloc, Sem.run_bind, zero_tr, Result.andThen_ok]
  rfl
def places_tr : List (Nat × Nat) := [(0, 1)]
theorem fields_tr : ∀ w : World, ((Try.prog.fieldsOf 24).mapM (m := Sem) fun f => do pure (f.offset, ← Go.sizeOf f.type)).run Try.prog w = .ok places_tr.toArray w := fun _ => by kernel_rfl
theorem under_tr : Try.prog.underlying 24 = some (.struct (Try.prog.fieldsOf 24)) := by kernel_rfl
theorem flds_tr : (Try.prog.fieldsOf 24).toList.map (fun f => (f.name, f.type, f.offset)) = [("N", 22, 0)] := by kernel_rfl
@[go_sem ↓] theorem build_tr (ρ : Operand → Value) (dst : Option Tmp) (p : Nat × Operand) (ps : List (Nat × Operand)) (ty : TypeId) (pos : String) (after : Array Edge) (guard : Option (Nat × Bool)) (w : World) :
    (execOp ρ { dst, op := .build 24 (p :: ps).toArray, type := ty, pos, after, guard }).run Try.prog w = vOutE ((fillA places_tr (tr ztr) ((p.1, ρ p.2) :: ps.map fun p => (p.1, ρ p.2))).map .agg) w (opRest Try.prog ρ { dst, op := .build 24 (p :: ps).toArray, type := ty, pos, after, guard } w) :=
  build_out zero_tr under_tr fields_tr ρ dst (p :: ps).toArray ty pos after guard w
@[go_sem ↓] theorem build0_tr (ρ : Operand → Value) (dst : Option Tmp) (ty : TypeId) (pos : String) (after : Array Edge) (guard : Option (Nat × Bool)) (w : World) :
    (execOp ρ { dst, op := .build 24 #[], type := ty, pos, after, guard }).run Try.prog w = .ok (.value (.agg (tr ztr))) w :=
  build_out zero_tr under_tr fields_tr ρ dst #[] ty pos after guard w
attribute [go_sem] places_tr tr_size
theorem tr_at_n (x : Tr) : trL x = ([]) ++ ([sv x.n] ++ ([])) ∧ ([] : List Value).length = 0 := by
  constructor
  · unfold trL; simp
  · rfl
theorem tr_get_n (x : Tr) : (tr x)[0]? = some (sv x.n) := get_at (tr_at_n x).1 (tr_at_n x).2
@[go_sem] theorem tr_gi_n (x : Tr) (h : 0 < (tr x).size) : (tr x)[0]'h = sv x.n := by have := tr_get_n x; rw [Array.getElem?_eq_getElem h] at this; exact Option.some.inj this
theorem tr_rd_n {w : World} {b off : Nat} {x : Tr} (h : w.rangeAt b off (trL x)) : w.cell? ⟨b, off + 0, none⟩ = some (sv x.n) := range_one h (tr_at_n x).1 (tr_at_n x).2
theorem tr_rd0_n {w : World} {g : Nat} {t : TypeId} {fr : Nat × Nat} {x : Tr} (h : w.heap[g]? = some (.cells (tr x) t fr)) : w.cell? ⟨g, 0, none⟩ = some (sv x.n) := by have := tr_rd_n (x := x) (range_block h); rwa [Nat.zero_add] at this
theorem tr_put_n (x : Tr) (y : SlV) : putSeg (tr x) 0 #[sv y] = tr { x with n := y } := by
  rw [putSeg_mid (c := tr x) (r := #[sv y]) (tr_at_n x).1 (tr_at_n x).2 rfl]
  simp [tr, trL]
@[go_sem] theorem tr_set_n (x : Tr) (y : SlV) : (tr x).setIfInBounds 0 (sv y) = tr { x with n := y } := by
  rw [setIfInBounds_seg (by rw [tr_size]; decide)]; exact tr_put_n x y
@[go_sem] theorem tr_sets_n (x : Tr) (p : Option Addr) (k c : Nat) : (tr x).setIfInBounds 0 (.slice p k c) = tr { x with n := ⟨p, k, c⟩ } := by
  rw [setIfInBounds_seg (by rw [tr_size]; decide)]; exact tr_put_n x ⟨p, k, c⟩
attribute [go_sem] tr_put_n
@[go_sem] theorem tr_puts_n (x : Tr) (p : Option Addr) (k c : Nat) : putSeg (tr x) 0 #[.slice p k c] = tr { x with n := ⟨p, k, c⟩ } := tr_put_n x ⟨p, k, c⟩
theorem cellsOf_tr : Try.prog.cellsOf 24 = 1 := by kernel_rfl
section
open Go.WideShapes Go.ChangeShapes
variable {H : Type} {enc : TypeId × Value → H} {w : World} {base : Nat} {sp : Nat → Bool} {held : Bool}
theorem cells_tr {fuel : Nat} {cs : List Value} {x : DataW H × List MemPlace} (hl : cs.length = 1) (h : DataW.trod enc Try.prog w base sp held fuel 24 cs = some x) : ∃ a : Tr, cs = trL a ∧ (∃ l, SlE Ene w (sv a.n) l) := by
  obtain ⟨_, _, h0⟩ := trod_field (i := 0) under_tr flds_tr rfl h
  rw [show Try.prog.cellsOf 22 = 1 from by kernel_rfl] at h0
  obtain ⟨a0, e0, k0⟩ := cells_nes h0
  refine ⟨⟨a0⟩, ?_, k0⟩
  unfold trL
  have j0 := seg_join cs 0 1
  rw [e0] at j0
  have jl : cs.drop 1 = [] := List.drop_of_length_le (by omega)
  rw [show (0 + 1) = 1 from rfl, jl, List.append_nil] at j0
  rw [← List.drop_zero (l := cs)]
  rw [← j0]
  try rfl
theorem open_tr {r : Reach} {b0 : Nat} {v : Value} {d : DataW H} {ps : List MemPlace} (hval : Value.okWide Try.prog w r b0 24 v) (hd : DataW.Trod enc Try.prog w base sp held 24 v d ps) : ∃ a : Tr, v = .agg (tr a) ∧ (∃ l, SlE Ene w (sv a.n) l) := by
  obtain ⟨xs, rfl, hn⟩ := okWide_struct under_tr hval
  rw [cellsOf_tr] at hn
  obtain ⟨fuel, hf⟩ := hd
  obtain ⟨a, ha, k0⟩ := cells_tr (cs := xs.toList) (by rw [Array.length_toList, hn]) hf
  exact ⟨a, by rw [show xs = tr a from Array.toList_inj.1 ha], k0⟩
end
def Etr : Lie Tr := ⟨24, 1, trL, by decide, tr_len, tr_one⟩
attribute [irreducible] tr
end Go.Proofs.Ytanoijcgkacnmaa
namespace Go.Proofs.Ytanoijcgkacnmaa
open Go.RowKit

theorem sv_lenN {w : World} {s : SlV} {l : List Nd} (h : SlE Ene w (sv s) l) : l.length = s.len := by
  obtain ⟨p', cap', e, _⟩ := slE_shape h
  unfold sv at e; injection e with _ e; exact e.symm
/-- A node, and its parts, in a slice. -/
theorem nds_ld {w : World} {b off : Nat} {l : List Nd} (h : w.rangeAt b off (cellsE Ene l)) {i : Nat} (hi : i < l.length) : ldA w (.pointer (some ⟨b, off + i * 35, none⟩)) 35 = some (ne (nd l i)) := by
  have := ldA_at h hi
  rw [nd_in l hi]
  exact this.trans (by rw [show (Ene.enc l[i]).toArray = ne l[i] from Array.toList_inj.1 (by rw [ne_list]; rfl)])
theorem nds_root {w : World} {b off : Nat} {l : List Nd} (h : w.rangeAt b off (cellsE Ene l)) {i : Nat} (hi : i < l.length) : ldA w (.pointer (some ⟨b, off + i * 35, none⟩)) 32 = some (rc (nd l i).root) := by
  have := ne_rd_root (range_at h hi)
  rw [nd_in l hi]
  exact this
theorem nds_par {w : World} {b off : Nat} {l : List Nd} (h : w.rangeAt b off (cellsE Ene l)) {i : Nat} (hi : i < l.length) : w.cell? ⟨b, off + i * 35 + 32, none⟩ = some (.int .i64 (nd l i).parent) := by
  have := ne_rd_parent (range_at h hi)
  rw [nd_in l hi]
  exact this
theorem nds_slot {w : World} {b off : Nat} {l : List Nd} (h : w.rangeAt b off (cellsE Ene l)) {i : Nat} (hi : i < l.length) : w.cell? ⟨b, off + i * 35 + 33, none⟩ = some (.int .u64 ((nd l i).slot.toNat : Int)) := by
  have := ne_rd_slot (range_at h hi)
  rw [nd_in l hi]
  exact this
theorem ne_cells {w : World} {g : Nat} {x : Nd} (h : w.heap[g]? = some (.cells (ne x) 43 (0, 0))) : ldA w (.pointer (some ⟨g, 0, none⟩)) 32 = some (rc x.root) ∧ w.cell? ⟨g, 32, none⟩ = some (.int .i64 x.parent) ∧ w.cell? ⟨g, 33, none⟩ = some (.int .u64 (x.slot.toNat : Int)) ∧ w.cell? ⟨g, 34, none⟩ = some (.int .u64 (x.just.toNat : Int)) ∧ ldA w (.pointer (some ⟨g, 0, none⟩)) 35 = some (ne x) ∧ g < w.heap.size :=
  ⟨ne_rd0_root h, ne_rd0_parent h, ne_rd0_slot h, ne_rd0_just h, ldA_block h (ne_size x), (Array.getElem?_eq_some_iff.1 h).1⟩
theorem tr_cells {w : World} {g : Nat} {x : Tr} (h : w.heap[g]? = some (.cells (tr x) 24 (0, 0))) : w.cell? ⟨g, 0, none⟩ = some (sv x.n) ∧ ldA w (.pointer (some ⟨g, 0, none⟩)) 1 = some (tr x) ∧ g < w.heap.size :=
  ⟨tr_rd0_n h, ldA_block h (tr_size x), (Array.getElem?_eq_some_iff.1 h).1⟩

theorem nd_ext {l k : List Nd} (hl : l.length = k.length) (h : ∀ i, i < k.length → nd l i = nd k i) : l = k := by
  refine List.ext_getElem hl fun i h1 h2 => ?_
  have := h i h2
  rwa [nd_in l h1, nd_in k h2] at this
theorem above_stop {l : List Nd} (h : MayT l) {i m : Nat} (hm : m < l.length) (hi : ¬ i < m) : aboveT l i m = decide (m = i) := by
  by_cases h0 : m = 0
  · subst h0
    rw [above_zero, Bool.eq_iff_iff, decide_eq_true_iff, decide_eq_true_iff]
    omega
  · rw [above_up h i (Nat.pos_of_ne_zero h0) hm, if_neg hi]
theorem slE_ptr {w : World} {p : Option Addr} {n cp : Nat} {l : List Nd} (h : SlE Ene w (.slice p n cp) l) (h0 : 0 < l.length) : ∃ b o, p = some ⟨b, o, none⟩ ∧ b < w.heap.size ∧ w.rangeAt b o (cellsE Ene l) := by
  obtain ⟨b, o, c, e, _, q, x⟩ := slE_ne h h0
  injection e with e1 e2 e3
  exact ⟨b, o, e1, q, x⟩
/-- A variable's block, read behind calls. -/
theorem wd_tr {w : World} {g : Nat} {x : Tr} (h : w.heap[g]? = some (.cells (tr x) 24 (0, 0))) (p : Wd w.drew) : ldA p.w (.pointer (some ⟨g, 0, none⟩)) 1 = some (tr x) := ldA_wd (show ldA w.drew _ 1 = _ by rw [ldA_drew]; exact ldA_block h (tr_size _)) (by decide) p
end Go.Proofs.Ytanoijcgkacnmaa
