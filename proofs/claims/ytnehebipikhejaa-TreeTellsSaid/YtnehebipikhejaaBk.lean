/-
  api.Block: its plain data, its cells, loads, stores, literals, ==, its parts in memory, an argument; in any translation that has it. (written by wip/mkstruct.py)
-/
import Derived.Test.YtnehebipikhejaaPr
namespace Go.Proofs.Ytnehebipikhejaa
open Go.RowKit

structure Bk where
  root : Rt
  parent : Rt
  slot : UInt64
  just : UInt64
theorem Bk.ext {x y : Bk} (h0 : x.root = y.root) (h1 : x.parent = y.parent) (h2 : x.slot = y.slot) (h3 : x.just = y.just) : x = y := by cases x; cases y; simp_all
instance : DecidableEq Bk := fun x y => decidable_of_iff (x.root = y.root ∧ x.parent = y.parent ∧ x.slot = y.slot ∧ x.just = y.just) ⟨fun h => Bk.ext h.1 h.2.1 h.2.2.1 h.2.2.2, fun h => by subst h; exact ⟨rfl, rfl, rfl, rfl⟩⟩
def bkL (x : Bk) : List Value := (rc x.root).toList ++ ((rc x.parent).toList ++ ([num x.slot] ++ ([num x.just])))
def bk (x : Bk) : Array Value := (bkL x).toArray
theorem bk_list (x : Bk) : (bk x).toList = bkL x := rfl
theorem bk_len (x : Bk) : (bkL x).length = 66 := by simp [bkL, rc_size]
theorem bk_size (x : Bk) : (bk x).size = 66 := by rw [← Array.length_toList, bk_list, bk_len]
theorem bk_one (x : Bk) : ∀ v ∈ bkL x, v.oneCell' = true := by
  intro v hv
  unfold bkL at hv
  simp only [List.mem_append, List.mem_singleton] at hv
  rcases hv with hv | hv | rfl | rfl
  · exact rc_ones _ v hv
  · exact rc_ones _ v hv
  · rfl
  · rfl
@[go_sem] theorem okA_bk (x : Bk) : okA 66 (.agg (bk x)) = true := by
  show ((bk x).size == 66 && (bk x).all (·.oneCell')) = true
  rw [show (bk x).all (·.oneCell') = true from all_one (bk_one x), bk_size]; rfl
def zbk : Bk := ⟨zr, zr, 0, 0⟩
theorem zero_bk (w : World) : (zeroValue 29).run Try.prog w = .ok (.agg (bk zbk)) w := by kernel_rfl
@[go_sem ↓] theorem load_bk (ρ : Operand → Value) (dst : Option Tmp) (x : Operand) (ty : TypeId) (pos : String) (after : Array Edge) (guard : Option (Nat × Bool)) (w : World) :
    (execOp ρ { dst, op := .load 29 x, type := ty, pos, after, guard }).run Try.prog w = ldOut (ldA w (ρ x) 66) w (opRest Try.prog ρ { dst, op := .load 29 x, type := ty, pos, after, guard } w) :=
  run_load_out Try.isAgg29 Try.sizeOf29 ρ dst x ty pos after guard w
@[go_sem ↓] theorem store_bk (ρ : Operand → Value) (dst : Option Tmp) (x y : Operand) (ty : TypeId) (pos : String) (after : Array Edge) (guard : Option (Nat × Bool)) (w : World) :
    (execOp ρ { dst, op := .store 29 x y, type := ty, pos, after, guard }).run Try.prog w = stOut (wrA w (ρ x) 66 && okA 66 (ρ y)) (stA w (ρ x) (ρ y)) (opRest Try.prog ρ { dst, op := .store 29 x y, type := ty, pos, after, guard } w) :=
  run_store_out Try.sizeOf29 ρ dst x y ty pos after guard w
@[go_sem ↓] theorem alloc_bk (ρ : Operand → Value) (dst : Option Tmp) (ty : TypeId) (pos : String) (after : Array Edge) (guard : Option (Nat × Bool)) (w : World) :
    (execOp ρ { dst, op := .alloc 29, type := ty, pos, after, guard }).run Try.prog w = .ok (.value (.pointer (some ⟨w.heap.size, 0, none⟩))) (w.alloc (.cells (bk zbk) 29)) := by
  unfold execOp
  simp only [Instr.alloc, Sem.run_bind, zero_bk, Result.andThen_ok]
  rfl
def places_bk : List (Nat × Nat) := [(0, 32), (32, 32), (64, 1), (65, 1)]
theorem fields_bk : ∀ w : World, ((Try.prog.fieldsOf 29).mapM (m := Sem) fun f => do pure (f.offset, ← Go.sizeOf f.type)).run Try.prog w = .ok places_bk.toArray w := fun _ => by kernel_rfl
theorem under_bk : Try.prog.underlying 29 = some (.struct (Try.prog.fieldsOf 29)) := by kernel_rfl
theorem flds_bk : (Try.prog.fieldsOf 29).toList.map (fun f => (f.name, f.type, f.offset)) = [("Root", 26, 0), ("Parent", 26, 32), ("Slot", 27, 64), ("Just", 27, 65)] := by kernel_rfl
@[go_sem ↓] theorem build_bk (ρ : Operand → Value) (dst : Option Tmp) (p : Nat × Operand) (ps : List (Nat × Operand)) (ty : TypeId) (pos : String) (after : Array Edge) (guard : Option (Nat × Bool)) (w : World) :
    (execOp ρ { dst, op := .build 29 (p :: ps).toArray, type := ty, pos, after, guard }).run Try.prog w = vOutE ((fillA places_bk (bk zbk) ((p.1, ρ p.2) :: ps.map fun p => (p.1, ρ p.2))).map .agg) w (opRest Try.prog ρ { dst, op := .build 29 (p :: ps).toArray, type := ty, pos, after, guard } w) :=
  build_out zero_bk under_bk fields_bk ρ dst (p :: ps).toArray ty pos after guard w
@[go_sem ↓] theorem build0_bk (ρ : Operand → Value) (dst : Option Tmp) (ty : TypeId) (pos : String) (after : Array Edge) (guard : Option (Nat × Bool)) (w : World) :
    (execOp ρ { dst, op := .build 29 #[], type := ty, pos, after, guard }).run Try.prog w = .ok (.value (.agg (bk zbk))) w :=
  build_out zero_bk under_bk fields_bk ρ dst #[] ty pos after guard w
attribute [go_sem] places_bk bk_size
theorem bk_at_root (x : Bk) : bkL x = ([]) ++ ((rc x.root).toList ++ ((rc x.parent).toList ++ ([num x.slot] ++ ([num x.just])))) ∧ ([] : List Value).length = 0 := by
  constructor
  · unfold bkL; simp
  · rfl
theorem bk_get_root (x : Bk) : (bk x).extract 0 (0 + 32) = rc x.root := extract_mid (bk_at_root x).1 (bk_at_root x).2 (rc_size _)
theorem bk_rd_root {w : World} {b off : Nat} {x : Bk} (h : w.rangeAt b off (bkL x)) : ldA w (.pointer (some ⟨b, off + 0, none⟩)) 32 = some (rc x.root) := range_ldA h (bk_at_root x).1 (bk_at_root x).2 (rc_size _)
theorem bk_rd0_root {w : World} {g : Nat} {t : TypeId} {fr : Nat × Nat} {x : Bk} (h : w.heap[g]? = some (.cells (bk x) t fr)) : ldA w (.pointer (some ⟨g, 0, none⟩)) 32 = some (rc x.root) := by have := bk_rd_root (x := x) (range_block h); rwa [Nat.zero_add] at this
@[go_sem] theorem bk_lda_root (w : World) (t : TypeId) (b : Nat) (x : Bk) (hb : b = w.heap.size) : ldA (w.alloc (.cells (bk x) t)) (.pointer (some ⟨b, 0, none⟩)) 32 = some (rc x.root) := by subst hb; exact bk_rd0_root (heap_alloc_last w _)
theorem bk_put_root (x : Bk) (y : Rt) : putSeg (bk x) 0 (rc y) = bk { x with root := y } := by
  rw [putSeg_mid (c := bk x) (bk_at_root x).1 (bk_at_root x).2 (by simp [rc_size])]
  simp [bk, bkL]
theorem bk_at_parent (x : Bk) : bkL x = ((rc x.root).toList) ++ ((rc x.parent).toList ++ ([num x.slot] ++ ([num x.just]))) ∧ ((rc x.root).toList : List Value).length = 32 := by
  constructor
  · unfold bkL; simp
  · simp [rc_size]
theorem bk_get_parent (x : Bk) : (bk x).extract 32 (32 + 32) = rc x.parent := extract_mid (bk_at_parent x).1 (bk_at_parent x).2 (rc_size _)
theorem bk_rd_parent {w : World} {b off : Nat} {x : Bk} (h : w.rangeAt b off (bkL x)) : ldA w (.pointer (some ⟨b, off + 32, none⟩)) 32 = some (rc x.parent) := range_ldA h (bk_at_parent x).1 (bk_at_parent x).2 (rc_size _)
theorem bk_rd0_parent {w : World} {g : Nat} {t : TypeId} {fr : Nat × Nat} {x : Bk} (h : w.heap[g]? = some (.cells (bk x) t fr)) : ldA w (.pointer (some ⟨g, 32, none⟩)) 32 = some (rc x.parent) := by have := bk_rd_parent (x := x) (range_block h); rwa [Nat.zero_add] at this
@[go_sem] theorem bk_lda_parent (w : World) (t : TypeId) (b : Nat) (x : Bk) (hb : b = w.heap.size) : ldA (w.alloc (.cells (bk x) t)) (.pointer (some ⟨b, 32, none⟩)) 32 = some (rc x.parent) := by subst hb; exact bk_rd0_parent (heap_alloc_last w _)
theorem bk_put_parent (x : Bk) (y : Rt) : putSeg (bk x) 32 (rc y) = bk { x with parent := y } := by
  rw [putSeg_mid (c := bk x) (bk_at_parent x).1 (bk_at_parent x).2 (by simp [rc_size])]
  simp [bk, bkL]
theorem bk_at_slot (x : Bk) : bkL x = ((rc x.root).toList ++ (rc x.parent).toList) ++ ([num x.slot] ++ ([num x.just])) ∧ ((rc x.root).toList ++ (rc x.parent).toList : List Value).length = 64 := by
  constructor
  · unfold bkL; simp
  · simp [rc_size]
theorem bk_get_slot (x : Bk) : (bk x)[64]? = some (num x.slot) := get_at (bk_at_slot x).1 (bk_at_slot x).2
@[go_sem] theorem bk_gi_slot (x : Bk) (h : 64 < (bk x).size) : (bk x)[64]'h = num x.slot := by have := bk_get_slot x; rw [Array.getElem?_eq_getElem h] at this; exact Option.some.inj this
theorem bk_rd_slot {w : World} {b off : Nat} {x : Bk} (h : w.rangeAt b off (bkL x)) : w.cell? ⟨b, off + 64, none⟩ = some (num x.slot) := range_one h (bk_at_slot x).1 (bk_at_slot x).2
theorem bk_rd0_slot {w : World} {g : Nat} {t : TypeId} {fr : Nat × Nat} {x : Bk} (h : w.heap[g]? = some (.cells (bk x) t fr)) : w.cell? ⟨g, 64, none⟩ = some (num x.slot) := by have := bk_rd_slot (x := x) (range_block h); rwa [Nat.zero_add] at this
theorem bk_put_slot (x : Bk) (y : UInt64) : putSeg (bk x) 64 #[num y] = bk { x with slot := y } := by
  rw [putSeg_mid (c := bk x) (r := #[num y]) (bk_at_slot x).1 (bk_at_slot x).2 rfl]
  simp [bk, bkL]
theorem bk_at_just (x : Bk) : bkL x = ((rc x.root).toList ++ (rc x.parent).toList ++ [num x.slot]) ++ ([num x.just] ++ ([])) ∧ ((rc x.root).toList ++ (rc x.parent).toList ++ [num x.slot] : List Value).length = 65 := by
  constructor
  · unfold bkL; simp
  · simp [rc_size]
theorem bk_get_just (x : Bk) : (bk x)[65]? = some (num x.just) := get_at (bk_at_just x).1 (bk_at_just x).2
@[go_sem] theorem bk_gi_just (x : Bk) (h : 65 < (bk x).size) : (bk x)[65]'h = num x.just := by have := bk_get_just x; rw [Array.getElem?_eq_getElem h] at this; exact Option.some.inj this
theorem bk_rd_just {w : World} {b off : Nat} {x : Bk} (h : w.rangeAt b off (bkL x)) : w.cell? ⟨b, off + 65, none⟩ = some (num x.just) := range_one h (bk_at_just x).1 (bk_at_just x).2
theorem bk_rd0_just {w : World} {g : Nat} {t : TypeId} {fr : Nat × Nat} {x : Bk} (h : w.heap[g]? = some (.cells (bk x) t fr)) : w.cell? ⟨g, 65, none⟩ = some (num x.just) := by have := bk_rd_just (x := x) (range_block h); rwa [Nat.zero_add] at this
theorem bk_put_just (x : Bk) (y : UInt64) : putSeg (bk x) 65 #[num y] = bk { x with just := y } := by
  rw [putSeg_mid (c := bk x) (r := #[num y]) (bk_at_just x).1 (bk_at_just x).2 rfl]
  simp [bk, bkL]
@[go_sem] theorem bk_set_slot (x : Bk) (y : UInt64) : (bk x).setIfInBounds 64 (num y) = bk { x with slot := y } := by
  rw [setIfInBounds_seg (by rw [bk_size]; decide)]; exact bk_put_slot x y
@[go_sem] theorem bk_setn_slot (x : Bk) (y : UInt64) : (bk x).setIfInBounds 64 (.int .u64 (y.toNat : Int)) = bk { x with slot := y } := by
  rw [setIfInBounds_seg (by rw [bk_size]; decide)]; exact bk_put_slot x y
@[go_sem] theorem bk_set_just (x : Bk) (y : UInt64) : (bk x).setIfInBounds 65 (num y) = bk { x with just := y } := by
  rw [setIfInBounds_seg (by rw [bk_size]; decide)]; exact bk_put_just x y
@[go_sem] theorem bk_setn_just (x : Bk) (y : UInt64) : (bk x).setIfInBounds 65 (.int .u64 (y.toNat : Int)) = bk { x with just := y } := by
  rw [setIfInBounds_seg (by rw [bk_size]; decide)]; exact bk_put_just x y
attribute [go_sem] bk_put_root bk_put_parent bk_put_slot bk_put_just
@[go_sem] theorem bk_putn_slot (x : Bk) (y : UInt64) : putSeg (bk x) 64 #[.int .u64 (y.toNat : Int)] = bk { x with slot := y } := bk_put_slot x y
@[go_sem] theorem bk_putn_just (x : Bk) (y : UInt64) : putSeg (bk x) 65 #[.int .u64 (y.toNat : Int)] = bk { x with just := y } := bk_put_just x y
theorem part_bk (c : Array Value) (o : Nat) (r : Bk) (h : c.extract o (o + 66) = bk r) (w : World) : (part 29 c o).run Try.prog w = .ok (.agg (bk r)) w := by
  rw [part_agg (P := Try.prog) Try.isAgg29 Try.sizeOf29, h]
theorem eq_bkN (d : Nat) (x y : Bk) (w : World) : (Op.equalIn (d + 3) 29 (.agg (bk x)) (.agg (bk y))).run Try.prog w = .ok (decide (x = y)) w := by
  rw [show d + 3 = (d + 2) + 1 from rfl, run_equalIn_struct w (d + 2) _ _ _ under_bk (by kernel_rfl)]
  rw [eqF_cons flds_bk (by decide) (partR _ _ _ (bk_get_root x) w) (partR _ _ _ (bk_get_root y) w) (eqRtN (d + 0) _ _ w)
    (fun _ h1 => eqF_cons h1 (by decide) (partR _ _ _ (bk_get_parent x) w) (partR _ _ _ (bk_get_parent y) w) (eqRtN (d + 0) _ _ w)
    (fun _ h2 => eqF_cons h2 (by decide) (partN _ _ _ (bk_get_slot x) w) (partN _ _ _ (bk_get_slot y) w) (eqNum (d + 1) _ _ w)
    (fun _ h3 => eqF_cons h3 (by decide) (partN _ _ _ (bk_get_just x) w) (partN _ _ _ (bk_get_just y) w) (eqNum (d + 1) _ _ w)
    (fun _ hn => eqF_nil hn))))]
  congr 1
  rw [Bool.eq_iff_iff]
  simp only [Bool.and_eq_true, decide_eq_true_iff, and_true]
  exact ⟨fun h => Bk.ext h.1 h.2.1 h.2.2.1 h.2.2.2, fun h => by subst h; exact ⟨rfl, rfl, rfl, rfl⟩⟩
@[go_sem ↓] theorem eq_bk (x y : Bk) (w : World) : (Op.equalIn 10000 29 (.agg (bk x)) (.agg (bk y))).run Try.prog w = .ok (decide (x = y)) w := eq_bkN 9997 x y w
theorem cellsOf_bk : Try.prog.cellsOf 29 = 66 := by kernel_rfl
section
open Go.WideShapes Go.ChangeShapes
variable {H : Type} {enc : TypeId × Value → H} {w : World} {base : Nat} {sp : Nat → Bool} {held : Bool}
theorem cells_bk {fuel : Nat} {cs : List Value} {x : DataW H × List MemPlace} (hl : cs.length = 66) (h : DataW.trod enc Try.prog w base sp held fuel 29 cs = some x) : ∃ a : Bk, cs = bkL a := by
  obtain ⟨_, _, h0⟩ := trod_field (i := 0) under_bk flds_bk rfl h
  rw [cellsOf_root] at h0
  obtain ⟨a0, e0⟩ := cells_root h0
  obtain ⟨_, _, h1⟩ := trod_field (i := 1) under_bk flds_bk rfl h
  rw [cellsOf_root] at h1
  obtain ⟨a1, e1⟩ := cells_root h1
  obtain ⟨_, _, h2⟩ := trod_field (i := 2) under_bk flds_bk rfl h
  rw [cellsOf_num] at h2
  obtain ⟨a2, e2⟩ := cells_num h2
  obtain ⟨_, _, h3⟩ := trod_field (i := 3) under_bk flds_bk rfl h
  rw [cellsOf_num] at h3
  obtain ⟨a3, e3⟩ := cells_num h3
  refine ⟨⟨a0, a1, a2, a3⟩, ?_⟩
  unfold bkL
  have j0 := seg_join cs 0 32
  rw [e0] at j0
  have j1 := seg_join cs 32 32
  rw [e1] at j1
  have j2 := seg_join cs 64 1
  rw [e2] at j2
  have j3 := seg_join cs 65 1
  rw [e3] at j3
  have jl : cs.drop 66 = [] := List.drop_of_length_le (by omega)
  rw [show (65 + 1) = 66 from rfl, jl, List.append_nil] at j3
  rw [← List.drop_zero (l := cs)]
  rw [← j0]
  rw [show cs.drop (0 + 32) = cs.drop 32 from rfl, ← j1]
  rw [show cs.drop (32 + 32) = cs.drop 64 from rfl, ← j2]
  rw [show cs.drop (64 + 1) = cs.drop 65 from rfl, ← j3]
  try rfl
theorem open_bk {r : Reach} {b0 : Nat} {v : Value} {d : DataW H} {ps : List MemPlace} (hval : Value.okWide Try.prog w r b0 29 v) (hd : DataW.Trod enc Try.prog w base sp held 29 v d ps) : ∃ a : Bk, v = .agg (bk a) := by
  obtain ⟨xs, rfl, hn⟩ := okWide_struct under_bk hval
  rw [cellsOf_bk] at hn
  obtain ⟨fuel, hf⟩ := hd
  obtain ⟨a, ha⟩ := cells_bk (cs := xs.toList) (by rw [Array.length_toList, hn]) hf
  exact ⟨a, by rw [show xs = bk a from Array.toList_inj.1 ha]⟩
end
def Ebk : Lie Bk := ⟨29, 66, bkL, by decide, bk_len, bk_one⟩
attribute [irreducible] bk
end Go.Proofs.Ytnehebipikhejaa
