/-
  api.Att: its plain data, its cells, loads, stores, literals, ==, its parts in memory, an argument; in any translation that has it. (written by wip/mkstruct.py)
-/
import Derived.Test.YtljehgohcchocaaPr
import Derived.Test.YtljehgohcchocaaCk
namespace Go.Proofs.Ytljehgohcchocaa
open Go.RowKit
set_option maxRecDepth 100000

structure Aa where
  val : Int
  slot : UInt64
  head : Rt
  source : Ck
  target : Ck
theorem Aa.ext {x y : Aa} (h0 : x.val = y.val) (h1 : x.slot = y.slot) (h2 : x.head = y.head) (h3 : x.source = y.source) (h4 : x.target = y.target) : x = y := by cases x; cases y; simp_all
instance : DecidableEq Aa := fun x y => decidable_of_iff (x.val = y.val ∧ x.slot = y.slot ∧ x.head = y.head ∧ x.source = y.source ∧ x.target = y.target) ⟨fun h => Aa.ext h.1 h.2.1 h.2.2.1 h.2.2.2.1 h.2.2.2.2, fun h => by subst h; exact ⟨rfl, rfl, rfl, rfl, rfl⟩⟩
def aaL (x : Aa) : List Value := [.int .i64 x.val] ++ ([num x.slot] ++ ((rc x.head).toList ++ ((cc x.source).toList ++ ((cc x.target).toList))))
def aa (x : Aa) : Array Value := (aaL x).toArray
theorem aa_list (x : Aa) : (aa x).toList = aaL x := rfl
theorem aa_len (x : Aa) : (aaL x).length = 100 := by simp [aaL, rc_size, cc_size]
theorem aa_size (x : Aa) : (aa x).size = 100 := by rw [← Array.length_toList, aa_list, aa_len]
theorem aa_one (x : Aa) : ∀ v ∈ aaL x, v.oneCell' = true := by
  intro v hv
  unfold aaL at hv
  simp only [List.mem_append, List.mem_singleton] at hv
  rcases hv with rfl | rfl | hv | hv | hv
  · rfl
  · rfl
  · exact rc_ones _ v hv
  · exact cc_one _ v (by rw [cc_list] at hv; exact hv)
  · exact cc_one _ v (by rw [cc_list] at hv; exact hv)
@[go_sem] theorem okA_aa (x : Aa) : okA 100 (.agg (aa x)) = true := by
  show ((aa x).size == 100 && (aa x).all (·.oneCell')) = true
  rw [show (aa x).all (·.oneCell') = true from all_one (aa_one x), aa_size]; rfl
def zaa : Aa := ⟨0, 0, zr, zcc, zcc⟩
theorem zero_aa (w : World) : (zeroValue 29).run Try.prog w = .ok (.agg (aa zaa)) w := by kernel_rfl
@[go_sem ↓] theorem load_aa (ρ : Operand → Value) (dst : Option Tmp) (x : Operand) (ty : TypeId) (pos : String) (after : Array Edge) (guard : Option (Nat × Bool)) (w : World) :
    (execOp ρ { dst, op := .load 29 x, type := ty, pos, after, guard }).run Try.prog w = ldOut (ldA w (ρ x) 100) w (opRest Try.prog ρ { dst, op := .load 29 x, type := ty, pos, after, guard } w) :=
  run_load_out Try.isAgg29 Try.sizeOf29 ρ dst x ty pos after guard w
@[go_sem ↓] theorem store_aa (ρ : Operand → Value) (dst : Option Tmp) (x y : Operand) (ty : TypeId) (pos : String) (after : Array Edge) (guard : Option (Nat × Bool)) (w : World) :
    (execOp ρ { dst, op := .store 29 x y, type := ty, pos, after, guard }).run Try.prog w = stOut (wrA w (ρ x) 100 && okA 100 (ρ y)) (stA w (ρ x) (ρ y)) (opRest Try.prog ρ { dst, op := .store 29 x y, type := ty, pos, after, guard } w) :=
  run_store_out Try.sizeOf29 ρ dst x y ty pos after guard w
@[go_sem ↓] theorem alloc_aa (ρ : Operand → Value) (dst : Option Tmp) (ty : TypeId) (pos : String) (after : Array Edge) (guard : Option (Nat × Bool)) (w : World) :
    (execOp ρ { dst, op := .alloc 29, type := ty, pos, after, guard }).run Try.prog w = .ok (.value (.pointer (some ⟨w.heap.size, 0, none⟩))) (w.alloc (.cells (aa zaa) 29)) := by
  unfold execOp
  simp only [Instr.alloc, Sem.run_bind, zero_aa, Result.andThen_ok]
  rfl
def places_aa : List (Nat × Nat) := [(0, 1), (1, 1), (2, 32), (34, 33), (67, 33)]
theorem fields_aa : ∀ w : World, ((Try.prog.fieldsOf 29).mapM (m := Sem) fun f => do pure (f.offset, ← Go.sizeOf f.type)).run Try.prog w = .ok places_aa.toArray w := fun _ => by kernel_rfl
theorem under_aa : Try.prog.underlying 29 = some (.struct (Try.prog.fieldsOf 29)) := by kernel_rfl
theorem flds_aa : (Try.prog.fieldsOf 29).toList.map (fun f => (f.name, f.type, f.offset)) = [("Val", 3, 0), ("Slot", 23, 1), ("Head", 25, 2), ("Source", 27, 34), ("Target", 27, 67)] := by kernel_rfl
@[go_sem ↓] theorem build_aa (ρ : Operand → Value) (dst : Option Tmp) (p : Nat × Operand) (ps : List (Nat × Operand)) (ty : TypeId) (pos : String) (after : Array Edge) (guard : Option (Nat × Bool)) (w : World) :
    (execOp ρ { dst, op := .build 29 (p :: ps).toArray, type := ty, pos, after, guard }).run Try.prog w = vOutE ((fillA places_aa (aa zaa) ((p.1, ρ p.2) :: ps.map fun p => (p.1, ρ p.2))).map .agg) w (opRest Try.prog ρ { dst, op := .build 29 (p :: ps).toArray, type := ty, pos, after, guard } w) :=
  build_out zero_aa under_aa fields_aa ρ dst (p :: ps).toArray ty pos after guard w
@[go_sem ↓] theorem build0_aa (ρ : Operand → Value) (dst : Option Tmp) (ty : TypeId) (pos : String) (after : Array Edge) (guard : Option (Nat × Bool)) (w : World) :
    (execOp ρ { dst, op := .build 29 #[], type := ty, pos, after, guard }).run Try.prog w = .ok (.value (.agg (aa zaa))) w :=
  build_out zero_aa under_aa fields_aa ρ dst #[] ty pos after guard w
attribute [go_sem] places_aa aa_size
theorem aa_at_val (x : Aa) : aaL x = ([]) ++ ([.int .i64 x.val] ++ ([num x.slot] ++ ((rc x.head).toList ++ ((cc x.source).toList ++ ((cc x.target).toList))))) ∧ ([] : List Value).length = 0 := by
  constructor
  · unfold aaL; simp
  · rfl
theorem aa_get_val (x : Aa) : (aa x)[0]? = some (.int .i64 x.val) := get_at (aa_at_val x).1 (aa_at_val x).2
@[go_sem] theorem aa_gi_val (x : Aa) (h : 0 < (aa x).size) : (aa x)[0]'h = .int .i64 x.val := by have := aa_get_val x; rw [Array.getElem?_eq_getElem h] at this; exact Option.some.inj this
theorem aa_rd_val {w : World} {b off : Nat} {x : Aa} (h : w.rangeAt b off (aaL x)) : w.cell? ⟨b, off + 0, none⟩ = some (.int .i64 x.val) := range_one h (aa_at_val x).1 (aa_at_val x).2
theorem aa_rd0_val {w : World} {g : Nat} {t : TypeId} {fr : Nat × Nat} {x : Aa} (h : w.heap[g]? = some (.cells (aa x) t fr)) : w.cell? ⟨g, 0, none⟩ = some (.int .i64 x.val) := by have := aa_rd_val (x := x) (range_block h); rwa [Nat.zero_add] at this
theorem aa_put_val (x : Aa) (y : Int) : putSeg (aa x) 0 #[.int .i64 y] = aa { x with val := y } := by
  rw [putSeg_mid (c := aa x) (r := #[.int .i64 y]) (aa_at_val x).1 (aa_at_val x).2 rfl]
  simp [aa, aaL]
theorem aa_at_slot (x : Aa) : aaL x = ([.int .i64 x.val]) ++ ([num x.slot] ++ ((rc x.head).toList ++ ((cc x.source).toList ++ ((cc x.target).toList)))) ∧ ([.int .i64 x.val] : List Value).length = 1 := by
  constructor
  · unfold aaL; simp
  · simp
theorem aa_get_slot (x : Aa) : (aa x)[1]? = some (num x.slot) := get_at (aa_at_slot x).1 (aa_at_slot x).2
@[go_sem] theorem aa_gi_slot (x : Aa) (h : 1 < (aa x).size) : (aa x)[1]'h = num x.slot := by have := aa_get_slot x; rw [Array.getElem?_eq_getElem h] at this; exact Option.some.inj this
theorem aa_rd_slot {w : World} {b off : Nat} {x : Aa} (h : w.rangeAt b off (aaL x)) : w.cell? ⟨b, off + 1, none⟩ = some (num x.slot) := range_one h (aa_at_slot x).1 (aa_at_slot x).2
theorem aa_rd0_slot {w : World} {g : Nat} {t : TypeId} {fr : Nat × Nat} {x : Aa} (h : w.heap[g]? = some (.cells (aa x) t fr)) : w.cell? ⟨g, 1, none⟩ = some (num x.slot) := by have := aa_rd_slot (x := x) (range_block h); rwa [Nat.zero_add] at this
theorem aa_put_slot (x : Aa) (y : UInt64) : putSeg (aa x) 1 #[num y] = aa { x with slot := y } := by
  rw [putSeg_mid (c := aa x) (r := #[num y]) (aa_at_slot x).1 (aa_at_slot x).2 rfl]
  simp [aa, aaL]
theorem aa_at_head (x : Aa) : aaL x = ([.int .i64 x.val] ++ [num x.slot]) ++ ((rc x.head).toList ++ ((cc x.source).toList ++ ((cc x.target).toList))) ∧ ([.int .i64 x.val] ++ [num x.slot] : List Value).length = 2 := by
  constructor
  · unfold aaL; simp
  · simp
theorem aa_get_head (x : Aa) : (aa x).extract 2 (2 + 32) = rc x.head := extract_mid (aa_at_head x).1 (aa_at_head x).2 (rc_size _)
theorem aa_rd_head {w : World} {b off : Nat} {x : Aa} (h : w.rangeAt b off (aaL x)) : ldA w (.pointer (some ⟨b, off + 2, none⟩)) 32 = some (rc x.head) := range_ldA h (aa_at_head x).1 (aa_at_head x).2 (rc_size _)
theorem aa_rd0_head {w : World} {g : Nat} {t : TypeId} {fr : Nat × Nat} {x : Aa} (h : w.heap[g]? = some (.cells (aa x) t fr)) : ldA w (.pointer (some ⟨g, 2, none⟩)) 32 = some (rc x.head) := by have := aa_rd_head (x := x) (range_block h); rwa [Nat.zero_add] at this
@[go_sem] theorem aa_lda_head (w : World) (t : TypeId) (b : Nat) (x : Aa) (hb : b = w.heap.size) : ldA (w.alloc (.cells (aa x) t)) (.pointer (some ⟨b, 2, none⟩)) 32 = some (rc x.head) := by subst hb; exact aa_rd0_head (heap_alloc_last w _)
theorem aa_put_head (x : Aa) (y : Rt) : putSeg (aa x) 2 (rc y) = aa { x with head := y } := by
  rw [putSeg_mid (c := aa x) (aa_at_head x).1 (aa_at_head x).2 (by simp [rc_size])]
  simp [aa, aaL]
theorem aa_at_source (x : Aa) : aaL x = ([.int .i64 x.val] ++ [num x.slot] ++ (rc x.head).toList) ++ ((cc x.source).toList ++ ((cc x.target).toList)) ∧ ([.int .i64 x.val] ++ [num x.slot] ++ (rc x.head).toList : List Value).length = 34 := by
  constructor
  · unfold aaL; simp
  · simp [rc_size]
theorem aa_get_source (x : Aa) : (aa x).extract 34 (34 + 33) = cc x.source := extract_mid (aa_at_source x).1 (aa_at_source x).2 (cc_size _)
theorem aa_rd_source {w : World} {b off : Nat} {x : Aa} (h : w.rangeAt b off (aaL x)) : ldA w (.pointer (some ⟨b, off + 34, none⟩)) 33 = some (cc x.source) := range_ldA h (aa_at_source x).1 (aa_at_source x).2 (cc_size _)
theorem aa_rd0_source {w : World} {g : Nat} {t : TypeId} {fr : Nat × Nat} {x : Aa} (h : w.heap[g]? = some (.cells (aa x) t fr)) : ldA w (.pointer (some ⟨g, 34, none⟩)) 33 = some (cc x.source) := by have := aa_rd_source (x := x) (range_block h); rwa [Nat.zero_add] at this
@[go_sem] theorem aa_lda_source (w : World) (t : TypeId) (b : Nat) (x : Aa) (hb : b = w.heap.size) : ldA (w.alloc (.cells (aa x) t)) (.pointer (some ⟨b, 34, none⟩)) 33 = some (cc x.source) := by subst hb; exact aa_rd0_source (heap_alloc_last w _)
theorem aa_put_source (x : Aa) (y : Ck) : putSeg (aa x) 34 (cc y) = aa { x with source := y } := by
  rw [putSeg_mid (c := aa x) (aa_at_source x).1 (aa_at_source x).2 (by simp [cc_size])]
  simp [aa, aaL]
theorem aa_at_target (x : Aa) : aaL x = ([.int .i64 x.val] ++ [num x.slot] ++ (rc x.head).toList ++ (cc x.source).toList) ++ ((cc x.target).toList ++ ([])) ∧ ([.int .i64 x.val] ++ [num x.slot] ++ (rc x.head).toList ++ (cc x.source).toList : List Value).length = 67 := by
  constructor
  · unfold aaL; simp
  · simp [rc_size, cc_size]
theorem aa_get_target (x : Aa) : (aa x).extract 67 (67 + 33) = cc x.target := extract_mid (aa_at_target x).1 (aa_at_target x).2 (cc_size _)
theorem aa_rd_target {w : World} {b off : Nat} {x : Aa} (h : w.rangeAt b off (aaL x)) : ldA w (.pointer (some ⟨b, off + 67, none⟩)) 33 = some (cc x.target) := range_ldA h (aa_at_target x).1 (aa_at_target x).2 (cc_size _)
theorem aa_rd0_target {w : World} {g : Nat} {t : TypeId} {fr : Nat × Nat} {x : Aa} (h : w.heap[g]? = some (.cells (aa x) t fr)) : ldA w (.pointer (some ⟨g, 67, none⟩)) 33 = some (cc x.target) := by have := aa_rd_target (x := x) (range_block h); rwa [Nat.zero_add] at this
@[go_sem] theorem aa_lda_target (w : World) (t : TypeId) (b : Nat) (x : Aa) (hb : b = w.heap.size) : ldA (w.alloc (.cells (aa x) t)) (.pointer (some ⟨b, 67, none⟩)) 33 = some (cc x.target) := by subst hb; exact aa_rd0_target (heap_alloc_last w _)
theorem aa_put_target (x : Aa) (y : Ck) : putSeg (aa x) 67 (cc y) = aa { x with target := y } := by
  rw [putSeg_mid (c := aa x) (aa_at_target x).1 (aa_at_target x).2 (by simp [cc_size])]
  simp [aa, aaL]
theorem aa_rg_source {w : World} {b off : Nat} {x : Aa} (h : w.rangeAt b off (aaL x)) : w.rangeAt b (off + 34) (ccL x.source) := by
  rw [← cc_list]; exact range_part h (aa_at_source x).1 (aa_at_source x).2
theorem aa_in_source (x : Aa) (o : Nat) (r : Array Value) (h : o + r.size ≤ 33) : putSeg (aa x) (34 + o) r = putSeg (aa x) 34 (putSeg (cc x.source) o r) := putSeg_in (c := aa x) (aa_at_source x).1 (aa_at_source x).2 (by rw [cc_size]; exact h)
theorem aa_rd_source_epoch {w : World} {b off : Nat} {x : Aa} (h : w.rangeAt b off (aaL x)) : w.cell? ⟨b, off + 34, none⟩ = some (num x.source.epoch) := cc_rd_epoch (aa_rg_source h)
theorem aa_rd0_source_epoch {w : World} {g : Nat} {t : TypeId} {fr : Nat × Nat} {x : Aa} (h : w.heap[g]? = some (.cells (aa x) t fr)) : w.cell? ⟨g, 34, none⟩ = some (num x.source.epoch) := by have := aa_rd_source_epoch (x := x) (range_block h); rwa [Nat.zero_add] at this
theorem aa_get_source_epoch (x : Aa) : (aa x)[34]? = some (num x.source.epoch) := by have := aa_rd_source_epoch (x := x) (range_block (heap_alloc_last (default : World) (.cells (aa x) 0))); rw [cell_of_row _ _ _ _ _ _ (heap_alloc_last _ _), Nat.zero_add] at this; exact this
@[go_sem] theorem aa_gi_source_epoch (x : Aa) (h : 34 < (aa x).size) : (aa x)[34]'h = num x.source.epoch := by have := aa_get_source_epoch x; rw [Array.getElem?_eq_getElem h] at this; exact Option.some.inj this
theorem aa_put_source_epoch (x : Aa) (y : UInt64) : putSeg (aa x) 34 #[num y] = aa { x with source := { x.source with epoch := y } } := by
  rw [show 34 = 34 + 0 from rfl, aa_in_source x 0 _ (by simp), cc_put_epoch, aa_put_source]
attribute [go_sem] aa_put_source_epoch
@[go_sem] theorem aa_set_source_epoch (x : Aa) (y : UInt64) : (aa x).setIfInBounds 34 (num y) = aa { x with source := { x.source with epoch := y } } := by
  rw [setIfInBounds_seg (by rw [aa_size]; decide)]; exact aa_put_source_epoch x y
@[go_sem] theorem aa_setn_source_epoch (x : Aa) (y : UInt64) : (aa x).setIfInBounds 34 (.int .u64 (y.toNat : Int)) = aa { x with source := { x.source with epoch := y } } := by
  rw [setIfInBounds_seg (by rw [aa_size]; decide)]; exact aa_put_source_epoch x y
theorem aa_rd_source_root {w : World} {b off : Nat} {x : Aa} (h : w.rangeAt b off (aaL x)) : ldA w (.pointer (some ⟨b, off + 35, none⟩)) 32 = some (rc x.source.root) := cc_rd_root (aa_rg_source h)
theorem aa_rd0_source_root {w : World} {g : Nat} {t : TypeId} {fr : Nat × Nat} {x : Aa} (h : w.heap[g]? = some (.cells (aa x) t fr)) : ldA w (.pointer (some ⟨g, 35, none⟩)) 32 = some (rc x.source.root) := by have := aa_rd_source_root (x := x) (range_block h); rwa [Nat.zero_add] at this
@[go_sem] theorem aa_lda_source_root (w : World) (t : TypeId) (b : Nat) (x : Aa) (hb : b = w.heap.size) : ldA (w.alloc (.cells (aa x) t)) (.pointer (some ⟨b, 35, none⟩)) 32 = some (rc x.source.root) := by subst hb; exact aa_rd0_source_root (heap_alloc_last w _)
theorem aa_put_source_root (x : Aa) (y : Rt) : putSeg (aa x) 35 (rc y) = aa { x with source := { x.source with root := y } } := by
  rw [show 35 = 34 + 1 from rfl, aa_in_source x 1 _ (by rw [rc_size]; decide), cc_put_root, aa_put_source]
attribute [go_sem] aa_put_source_root
theorem aa_rg_target {w : World} {b off : Nat} {x : Aa} (h : w.rangeAt b off (aaL x)) : w.rangeAt b (off + 67) (ccL x.target) := by
  rw [← cc_list]; exact range_part h (aa_at_target x).1 (aa_at_target x).2
theorem aa_in_target (x : Aa) (o : Nat) (r : Array Value) (h : o + r.size ≤ 33) : putSeg (aa x) (67 + o) r = putSeg (aa x) 67 (putSeg (cc x.target) o r) := putSeg_in (c := aa x) (aa_at_target x).1 (aa_at_target x).2 (by rw [cc_size]; exact h)
theorem aa_rd_target_epoch {w : World} {b off : Nat} {x : Aa} (h : w.rangeAt b off (aaL x)) : w.cell? ⟨b, off + 67, none⟩ = some (num x.target.epoch) := cc_rd_epoch (aa_rg_target h)
theorem aa_rd0_target_epoch {w : World} {g : Nat} {t : TypeId} {fr : Nat × Nat} {x : Aa} (h : w.heap[g]? = some (.cells (aa x) t fr)) : w.cell? ⟨g, 67, none⟩ = some (num x.target.epoch) := by have := aa_rd_target_epoch (x := x) (range_block h); rwa [Nat.zero_add] at this
theorem aa_get_target_epoch (x : Aa) : (aa x)[67]? = some (num x.target.epoch) := by have := aa_rd_target_epoch (x := x) (range_block (heap_alloc_last (default : World) (.cells (aa x) 0))); rw [cell_of_row _ _ _ _ _ _ (heap_alloc_last _ _), Nat.zero_add] at this; exact this
@[go_sem] theorem aa_gi_target_epoch (x : Aa) (h : 67 < (aa x).size) : (aa x)[67]'h = num x.target.epoch := by have := aa_get_target_epoch x; rw [Array.getElem?_eq_getElem h] at this; exact Option.some.inj this
theorem aa_put_target_epoch (x : Aa) (y : UInt64) : putSeg (aa x) 67 #[num y] = aa { x with target := { x.target with epoch := y } } := by
  rw [show 67 = 67 + 0 from rfl, aa_in_target x 0 _ (by simp), cc_put_epoch, aa_put_target]
attribute [go_sem] aa_put_target_epoch
@[go_sem] theorem aa_set_target_epoch (x : Aa) (y : UInt64) : (aa x).setIfInBounds 67 (num y) = aa { x with target := { x.target with epoch := y } } := by
  rw [setIfInBounds_seg (by rw [aa_size]; decide)]; exact aa_put_target_epoch x y
@[go_sem] theorem aa_setn_target_epoch (x : Aa) (y : UInt64) : (aa x).setIfInBounds 67 (.int .u64 (y.toNat : Int)) = aa { x with target := { x.target with epoch := y } } := by
  rw [setIfInBounds_seg (by rw [aa_size]; decide)]; exact aa_put_target_epoch x y
theorem aa_rd_target_root {w : World} {b off : Nat} {x : Aa} (h : w.rangeAt b off (aaL x)) : ldA w (.pointer (some ⟨b, off + 68, none⟩)) 32 = some (rc x.target.root) := cc_rd_root (aa_rg_target h)
theorem aa_rd0_target_root {w : World} {g : Nat} {t : TypeId} {fr : Nat × Nat} {x : Aa} (h : w.heap[g]? = some (.cells (aa x) t fr)) : ldA w (.pointer (some ⟨g, 68, none⟩)) 32 = some (rc x.target.root) := by have := aa_rd_target_root (x := x) (range_block h); rwa [Nat.zero_add] at this
@[go_sem] theorem aa_lda_target_root (w : World) (t : TypeId) (b : Nat) (x : Aa) (hb : b = w.heap.size) : ldA (w.alloc (.cells (aa x) t)) (.pointer (some ⟨b, 68, none⟩)) 32 = some (rc x.target.root) := by subst hb; exact aa_rd0_target_root (heap_alloc_last w _)
theorem aa_put_target_root (x : Aa) (y : Rt) : putSeg (aa x) 68 (rc y) = aa { x with target := { x.target with root := y } } := by
  rw [show 68 = 67 + 1 from rfl, aa_in_target x 1 _ (by rw [rc_size]; decide), cc_put_root, aa_put_target]
attribute [go_sem] aa_put_target_root
@[go_sem] theorem aa_set_val (x : Aa) (y : Int) : (aa x).setIfInBounds 0 (.int .i64 y) = aa { x with val := y } := by
  rw [setIfInBounds_seg (by rw [aa_size]; decide)]; exact aa_put_val x y
@[go_sem] theorem aa_set_slot (x : Aa) (y : UInt64) : (aa x).setIfInBounds 1 (num y) = aa { x with slot := y } := by
  rw [setIfInBounds_seg (by rw [aa_size]; decide)]; exact aa_put_slot x y
@[go_sem] theorem aa_setn_slot (x : Aa) (y : UInt64) : (aa x).setIfInBounds 1 (.int .u64 (y.toNat : Int)) = aa { x with slot := y } := by
  rw [setIfInBounds_seg (by rw [aa_size]; decide)]; exact aa_put_slot x y
attribute [go_sem] aa_put_val aa_put_slot aa_put_head aa_put_source aa_put_target
@[go_sem] theorem aa_putn_slot (x : Aa) (y : UInt64) : putSeg (aa x) 1 #[.int .u64 (y.toNat : Int)] = aa { x with slot := y } := aa_put_slot x y
theorem part_aa (c : Array Value) (o : Nat) (r : Aa) (h : c.extract o (o + 100) = aa r) (w : World) : (part 29 c o).run Try.prog w = .ok (.agg (aa r)) w := by
  rw [part_agg (P := Try.prog) Try.isAgg29 Try.sizeOf29, h]
theorem eq_aaN (d : Nat) (x y : Aa) (w : World) : (Op.equalIn (d + 4) 29 (.agg (aa x)) (.agg (aa y))).run Try.prog w = .ok (decide (x = y)) w := by
  rw [show d + 4 = (d + 3) + 1 from rfl, run_equalIn_struct w (d + 3) _ _ _ under_aa (by kernel_rfl)]
  rw [eqF_cons flds_aa (by decide) (partI _ _ _ (aa_get_val x) w) (partI _ _ _ (aa_get_val y) w) (eqInt (d + 2) _ _ w)
    (fun _ h1 => eqF_cons h1 (by decide) (partN _ _ _ (aa_get_slot x) w) (partN _ _ _ (aa_get_slot y) w) (eqNum (d + 2) _ _ w)
    (fun _ h2 => eqF_cons h2 (by decide) (partR _ _ _ (aa_get_head x) w) (partR _ _ _ (aa_get_head y) w) (eqRtN (d + 1) _ _ w)
    (fun _ h3 => eqF_cons h3 (by decide) (part_cc _ _ _ (aa_get_source x) w) (part_cc _ _ _ (aa_get_source y) w) (eq_ccN (d + 0) _ _ w)
    (fun _ h4 => eqF_cons h4 (by decide) (part_cc _ _ _ (aa_get_target x) w) (part_cc _ _ _ (aa_get_target y) w) (eq_ccN (d + 0) _ _ w)
    (fun _ hn => eqF_nil hn)))))]
  congr 1
  rw [Bool.eq_iff_iff]
  simp only [Bool.and_eq_true, decide_eq_true_iff, and_true]
  exact ⟨fun h => Aa.ext h.1 h.2.1 h.2.2.1 h.2.2.2.1 h.2.2.2.2, fun h => by subst h; exact ⟨rfl, rfl, rfl, rfl, rfl⟩⟩
@[go_sem ↓] theorem eq_aa (x y : Aa) (w : World) : (Op.equalIn 10000 29 (.agg (aa x)) (.agg (aa y))).run Try.prog w = .ok (decide (x = y)) w := eq_aaN 9996 x y w
theorem cellsOf_aa : Try.prog.cellsOf 29 = 100 := by kernel_rfl
section
open Go.WideShapes Go.ChangeShapes
variable {H : Type} {enc : TypeId × Value → H} {w : World} {base : Nat} {sp : Nat → Bool} {held : Bool}
set_option maxRecDepth 100000 in
theorem cells_aa {fuel : Nat} {cs : List Value} {x : DataW H × List MemPlace} (hl : cs.length = 100) (h : DataW.trod enc Try.prog w base sp held fuel 29 cs = some x) : ∃ a : Aa, cs = aaL a := by
  obtain ⟨_, _, h0⟩ := trod_field (i := 0) under_aa flds_aa rfl h
  rw [cellsOf_int] at h0
  obtain ⟨a0, e0⟩ := cells_int h0
  obtain ⟨_, _, h1⟩ := trod_field (i := 1) under_aa flds_aa rfl h
  rw [cellsOf_num] at h1
  obtain ⟨a1, e1⟩ := cells_num h1
  obtain ⟨_, _, h2⟩ := trod_field (i := 2) under_aa flds_aa rfl h
  rw [cellsOf_root] at h2
  obtain ⟨a2, e2⟩ := cells_root h2
  obtain ⟨_, _, h3⟩ := trod_field (i := 3) under_aa flds_aa rfl h
  rw [cellsOf_cc] at h3
  obtain ⟨a3, e3⟩ := cells_cc (by rw [List.length_take, List.length_drop]; omega) h3
  rw [← cc_list] at e3
  obtain ⟨_, _, h4⟩ := trod_field (i := 4) under_aa flds_aa rfl h
  rw [cellsOf_cc] at h4
  obtain ⟨a4, e4⟩ := cells_cc (by rw [List.length_take, List.length_drop]; omega) h4
  rw [← cc_list] at e4
  refine ⟨⟨a0, a1, a2, a3, a4⟩, ?_⟩
  unfold aaL
  have j0 := seg_join cs 0 1
  rw [e0] at j0
  have j1 := seg_join cs 1 1
  rw [e1] at j1
  have j2 := seg_join cs 2 32
  rw [e2] at j2
  have j3 := seg_join cs 34 33
  rw [e3] at j3
  have j4 := seg_join cs 67 33
  rw [e4] at j4
  have jl : cs.drop 100 = [] := List.drop_of_length_le (by omega)
  rw [show (67 + 33) = 100 from rfl, jl, List.append_nil] at j4
  rw [← List.drop_zero (l := cs)]
  rw [← j0]
  rw [show cs.drop (0 + 1) = cs.drop 1 from rfl, ← j1]
  rw [show cs.drop (1 + 1) = cs.drop 2 from rfl, ← j2]
  rw [show cs.drop (2 + 32) = cs.drop 34 from rfl, ← j3]
  rw [show cs.drop (34 + 33) = cs.drop 67 from rfl, ← j4]
  try rfl
set_option maxRecDepth 100000 in
theorem open_aa {r : Reach} {b0 : Nat} {v : Value} {d : DataW H} {ps : List MemPlace} (hval : Value.okWide Try.prog w r b0 29 v) (hd : DataW.Trod enc Try.prog w base sp held 29 v d ps) : ∃ a : Aa, v = .agg (aa a) := by
  obtain ⟨xs, rfl, hn⟩ := okWide_struct under_aa hval
  rw [cellsOf_aa] at hn
  obtain ⟨fuel, hf⟩ := hd
  obtain ⟨a, ha⟩ := cells_aa (cs := xs.toList) (by rw [Array.length_toList, hn]) hf
  exact ⟨a, by rw [show xs = aa a from Array.toList_inj.1 ha]⟩
end
def Eaa : Lie Aa := ⟨29, 100, aaL, by decide, aa_len, aa_one⟩
attribute [irreducible] aa
end Go.Proofs.Ytljehgohcchocaa
