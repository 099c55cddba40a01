/-
  link.ends: its plain data, its cells, loads, stores, literals, ==, its parts in memory, an argument; in any translation that has it. (written by wip/mkstruct.py)
-/
import Derived.Test.YtkbifcfgcokmlaaQ06
import Derived.Test.YtkbifcfgcokmlaaQ07
namespace Go.Proofs.Ytkbifcfgcokmlaa
open Go.RowKit
set_option maxRecDepth 100000

structure Ed where
  s : Ck
  t : Ck
theorem Ed.ext {x y : Ed} (h0 : x.s = y.s) (h1 : x.t = y.t) : x = y := by cases x; cases y; simp_all
instance : DecidableEq Ed := fun x y => decidable_of_iff (x.s = y.s ∧ x.t = y.t) ⟨fun h => Ed.ext h.1 h.2, fun h => by subst h; exact ⟨rfl, rfl⟩⟩
def edL (x : Ed) : List Value := (cc x.s).toList ++ ((cc x.t).toList)
def ed (x : Ed) : Array Value := (edL x).toArray
theorem ed_list (x : Ed) : (ed x).toList = edL x := rfl
theorem ed_len (x : Ed) : (edL x).length = 66 := by simp [edL, cc_size]
theorem ed_size (x : Ed) : (ed x).size = 66 := by rw [← Array.length_toList, ed_list, ed_len]
theorem ed_one (x : Ed) : ∀ v ∈ edL x, v.oneCell' = true := by
  intro v hv
  unfold edL at hv
  simp only [List.mem_append] at hv
  rcases hv with hv | hv
  · exact cc_one _ v (by rw [cc_list] at hv; exact hv)
  · exact cc_one _ v (by rw [cc_list] at hv; exact hv)
@[go_sem] theorem okA_ed (x : Ed) : okA 66 (.agg (ed x)) = true := by
  show ((ed x).size == 66 && (ed x).all (·.oneCell')) = true
  rw [show (ed x).all (·.oneCell') = true from all_one (ed_one x), ed_size]; rfl
def zed : Ed := ⟨zcc, zcc⟩
theorem zero_ed (w : World) : (zeroValue 52).run Try.prog w = .ok (.agg (ed zed)) w := by kernel_rfl
@[go_sem ↓] theorem load_ed (ρ : Operand → Value) (dst : Option Tmp) (x : Operand) (ty : TypeId) (pos : String) (after : Array Edge) (guard : Option (Nat × Bool)) (w : World) :
    (execOp ρ { dst, op := .load 52 x, type := ty, pos, after, guard }).run Try.prog w = ldOut (ldA w (ρ x) 66) w (opRest Try.prog ρ { dst, op := .load 52 x, type := ty, pos, after, guard } w) :=
  run_load_out Try.isAgg52 Try.sizeOf52 ρ dst x ty pos after guard w
@[go_sem ↓] theorem store_ed (ρ : Operand → Value) (dst : Option Tmp) (x y : Operand) (ty : TypeId) (pos : String) (after : Array Edge) (guard : Option (Nat × Bool)) (w : World) :
    (execOp ρ { dst, op := .store 52 x y, type := ty, pos, after, guard }).run Try.prog w = stOut (wrA w (ρ x) 66 && okA 66 (ρ y)) (stA w (ρ x) (ρ y)) (opRest Try.prog ρ { dst, op := .store 52 x y, type := ty, pos, after, guard } w) :=
  run_store_out Try.sizeOf52 ρ dst x y ty pos after guard w
@[go_sem ↓] theorem alloc_ed (ρ : Operand → Value) (dst : Option Tmp) (ty : TypeId) (pos : String) (after : Array Edge) (guard : Option (Nat × Bool)) (w : World) :
    (execOp ρ { dst, op := .alloc 52, type := ty, pos, after, guard }).run Try.prog w = .ok (.value (.pointer (some ⟨w.heap.size, 0, none⟩))) (w.alloc (.cells (ed zed) 52)) := by
  unfold execOp
  simp only [Instr.alloc, Sem.run_bind, zero_ed, Result.andThen_ok]
  rfl
def places_ed : List (Nat × Nat) := [(0, 33), (33, 33)]
theorem fields_ed : ∀ w : World, ((Try.prog.fieldsOf 52).mapM (m := Sem) fun f => do pure (f.offset, ← Go.sizeOf f.type)).run Try.prog w = .ok places_ed.toArray w := fun _ => by kernel_rfl
theorem under_ed : Try.prog.underlying 52 = some (.struct (Try.prog.fieldsOf 52)) := by kernel_rfl
theorem flds_ed : (Try.prog.fieldsOf 52).toList.map (fun f => (f.name, f.type, f.offset)) = [("s", 27, 0), ("t", 27, 33)] := by kernel_rfl
@[go_sem ↓] theorem build_ed (ρ : Operand → Value) (dst : Option Tmp) (p : Nat × Operand) (ps : List (Nat × Operand)) (ty : TypeId) (pos : String) (after : Array Edge) (guard : Option (Nat × Bool)) (w : World) :
    (execOp ρ { dst, op := .build 52 (p :: ps).toArray, type := ty, pos, after, guard }).run Try.prog w = vOutE ((fillA places_ed (ed zed) ((p.1, ρ p.2) :: ps.map fun p => (p.1, ρ p.2))).map .agg) w (opRest Try.prog ρ { dst, op := .build 52 (p :: ps).toArray, type := ty, pos, after, guard } w) :=
  build_out zero_ed under_ed fields_ed ρ dst (p :: ps).toArray ty pos after guard w
@[go_sem ↓] theorem build0_ed (ρ : Operand → Value) (dst : Option Tmp) (ty : TypeId) (pos : String) (after : Array Edge) (guard : Option (Nat × Bool)) (w : World) :
    (execOp ρ { dst, op := .build 52 #[], type := ty, pos, after, guard }).run Try.prog w = .ok (.value (.agg (ed zed))) w :=
  build_out zero_ed under_ed fields_ed ρ dst #[] ty pos after guard w
attribute [go_sem] places_ed ed_size
theorem ed_at_s (x : Ed) : edL x = ([]) ++ ((cc x.s).toList ++ ((cc x.t).toList)) ∧ ([] : List Value).length = 0 := by
  constructor
  · unfold edL; simp
  · rfl
theorem ed_get_s (x : Ed) : (ed x).extract 0 (0 + 33) = cc x.s := extract_mid (ed_at_s x).1 (ed_at_s x).2 (cc_size _)
theorem ed_rd_s {w : World} {b off : Nat} {x : Ed} (h : w.rangeAt b off (edL x)) : ldA w (.pointer (some ⟨b, off + 0, none⟩)) 33 = some (cc x.s) := range_ldA h (ed_at_s x).1 (ed_at_s x).2 (cc_size _)
theorem ed_rd0_s {w : World} {g : Nat} {t : TypeId} {fr : Nat × Nat} {x : Ed} (h : w.heap[g]? = some (.cells (ed x) t fr)) : ldA w (.pointer (some ⟨g, 0, none⟩)) 33 = some (cc x.s) := by have := ed_rd_s (x := x) (range_block h); rwa [Nat.zero_add] at this
@[go_sem] theorem ed_lda_s (w : World) (t : TypeId) (b : Nat) (x : Ed) (hb : b = w.heap.size) : ldA (w.alloc (.cells (ed x) t)) (.pointer (some ⟨b, 0, none⟩)) 33 = some (cc x.s) := by subst hb; exact ed_rd0_s (heap_alloc_last w _)
theorem ed_put_s (x : Ed) (y : Ck) : putSeg (ed x) 0 (cc y) = ed { x with s := y } := by
  rw [putSeg_mid (c := ed x) (ed_at_s x).1 (ed_at_s x).2 (by simp [cc_size])]
  simp [ed, edL]
theorem ed_at_t (x : Ed) : edL x = ((cc x.s).toList) ++ ((cc x.t).toList ++ ([])) ∧ ((cc x.s).toList : List Value).length = 33 := by
  constructor
  · unfold edL; simp
  · simp [cc_size]
theorem ed_get_t (x : Ed) : (ed x).extract 33 (33 + 33) = cc x.t := extract_mid (ed_at_t x).1 (ed_at_t x).2 (cc_size _)
theorem ed_rd_t {w : World} {b off : Nat} {x : Ed} (h : w.rangeAt b off (edL x)) : ldA w (.pointer (some ⟨b, off + 33, none⟩)) 33 = some (cc x.t) := range_ldA h (ed_at_t x).1 (ed_at_t x).2 (cc_size _)
theorem ed_rd0_t {w : World} {g : Nat} {t : TypeId} {fr : Nat × Nat} {x : Ed} (h : w.heap[g]? = some (.cells (ed x) t fr)) : ldA w (.pointer (some ⟨g, 33, none⟩)) 33 = some (cc x.t) := by have := ed_rd_t (x := x) (range_block h); rwa [Nat.zero_add] at this
@[go_sem] theorem ed_lda_t (w : World) (t : TypeId) (b : Nat) (x : Ed) (hb : b = w.heap.size) : ldA (w.alloc (.cells (ed x) t)) (.pointer (some ⟨b, 33, none⟩)) 33 = some (cc x.t) := by subst hb; exact ed_rd0_t (heap_alloc_last w _)
theorem ed_put_t (x : Ed) (y : Ck) : putSeg (ed x) 33 (cc y) = ed { x with t := y } := by
  rw [putSeg_mid (c := ed x) (ed_at_t x).1 (ed_at_t x).2 (by simp [cc_size])]
  simp [ed, edL]
theorem ed_rg_s {w : World} {b off : Nat} {x : Ed} (h : w.rangeAt b off (edL x)) : w.rangeAt b (off + 0) (ccL x.s) := by
  rw [← cc_list]; exact range_part h (ed_at_s x).1 (ed_at_s x).2
theorem ed_in_s (x : Ed) (o : Nat) (r : Array Value) (h : o + r.size ≤ 33) : putSeg (ed x) (0 + o) r = putSeg (ed x) 0 (putSeg (cc x.s) o r) := putSeg_in (c := ed x) (ed_at_s x).1 (ed_at_s x).2 (by rw [cc_size]; exact h)
theorem ed_rd_s_epoch {w : World} {b off : Nat} {x : Ed} (h : w.rangeAt b off (edL x)) : w.cell? ⟨b, off + 0, none⟩ = some (num x.s.epoch) := cc_rd_epoch (ed_rg_s h)
theorem ed_rd0_s_epoch {w : World} {g : Nat} {t : TypeId} {fr : Nat × Nat} {x : Ed} (h : w.heap[g]? = some (.cells (ed x) t fr)) : w.cell? ⟨g, 0, none⟩ = some (num x.s.epoch) := by have := ed_rd_s_epoch (x := x) (range_block h); rwa [Nat.zero_add] at this
theorem ed_get_s_epoch (x : Ed) : (ed x)[0]? = some (num x.s.epoch) := by have := ed_rd_s_epoch (x := x) (range_block (heap_alloc_last (default : World) (.cells (ed x) 0))); rw [cell_of_row _ _ _ _ _ _ (heap_alloc_last _ _), Nat.zero_add] at this; exact this
@[go_sem] theorem ed_gi_s_epoch (x : Ed) (h : 0 < (ed x).size) : (ed x)[0]'h = num x.s.epoch := by have := ed_get_s_epoch x; rw [Array.getElem?_eq_getElem h] at this; exact Option.some.inj this
theorem ed_put_s_epoch (x : Ed) (y : UInt64) : putSeg (ed x) 0 #[num y] = ed { x with s := { x.s with epoch := y } } := by
  rw [show 0 = 0 + 0 from rfl, ed_in_s x 0 _ (by simp), cc_put_epoch, ed_put_s]
attribute [go_sem] ed_put_s_epoch
@[go_sem] theorem ed_set_s_epoch (x : Ed) (y : UInt64) : (ed x).setIfInBounds 0 (num y) = ed { x with s := { x.s with epoch := y } } := by
  rw [setIfInBounds_seg (by rw [ed_size]; decide)]; exact ed_put_s_epoch x y
@[go_sem] theorem ed_setn_s_epoch (x : Ed) (y : UInt64) : (ed x).setIfInBounds 0 (.int .u64 (y.toNat : Int)) = ed { x with s := { x.s with epoch := y } } := by
  rw [setIfInBounds_seg (by rw [ed_size]; decide)]; exact ed_put_s_epoch x y
theorem ed_rd_s_root {w : World} {b off : Nat} {x : Ed} (h : w.rangeAt b off (edL x)) : ldA w (.pointer (some ⟨b, off + 1, none⟩)) 32 = some (rc x.s.root) := cc_rd_root (ed_rg_s h)
theorem ed_rd0_s_root {w : World} {g : Nat} {t : TypeId} {fr : Nat × Nat} {x : Ed} (h : w.heap[g]? = some (.cells (ed x) t fr)) : ldA w (.pointer (some ⟨g, 1, none⟩)) 32 = some (rc x.s.root) := by have := ed_rd_s_root (x := x) (range_block h); rwa [Nat.zero_add] at this
@[go_sem] theorem ed_lda_s_root (w : World) (t : TypeId) (b : Nat) (x : Ed) (hb : b = w.heap.size) : ldA (w.alloc (.cells (ed x) t)) (.pointer (some ⟨b, 1, none⟩)) 32 = some (rc x.s.root) := by subst hb; exact ed_rd0_s_root (heap_alloc_last w _)
theorem ed_put_s_root (x : Ed) (y : Rt) : putSeg (ed x) 1 (rc y) = ed { x with s := { x.s with root := y } } := by
  rw [show 1 = 0 + 1 from rfl, ed_in_s x 1 _ (by rw [rc_size]; decide), cc_put_root, ed_put_s]
attribute [go_sem] ed_put_s_root
theorem ed_rg_t {w : World} {b off : Nat} {x : Ed} (h : w.rangeAt b off (edL x)) : w.rangeAt b (off + 33) (ccL x.t) := by
  rw [← cc_list]; exact range_part h (ed_at_t x).1 (ed_at_t x).2
theorem ed_in_t (x : Ed) (o : Nat) (r : Array Value) (h : o + r.size ≤ 33) : putSeg (ed x) (33 + o) r = putSeg (ed x) 33 (putSeg (cc x.t) o r) := putSeg_in (c := ed x) (ed_at_t x).1 (ed_at_t x).2 (by rw [cc_size]; exact h)
theorem ed_rd_t_epoch {w : World} {b off : Nat} {x : Ed} (h : w.rangeAt b off (edL x)) : w.cell? ⟨b, off + 33, none⟩ = some (num x.t.epoch) := cc_rd_epoch (ed_rg_t h)
theorem ed_rd0_t_epoch {w : World} {g : Nat} {t : TypeId} {fr : Nat × Nat} {x : Ed} (h : w.heap[g]? = some (.cells (ed x) t fr)) : w.cell? ⟨g, 33, none⟩ = some (num x.t.epoch) := by have := ed_rd_t_epoch (x := x) (range_block h); rwa [Nat.zero_add] at this
theorem ed_get_t_epoch (x : Ed) : (ed x)[33]? = some (num x.t.epoch) := by have := ed_rd_t_epoch (x := x) (range_block (heap_alloc_last (default : World) (.cells (ed x) 0))); rw [cell_of_row _ _ _ _ _ _ (heap_alloc_last _ _), Nat.zero_add] at this; exact this
@[go_sem] theorem ed_gi_t_epoch (x : Ed) (h : 33 < (ed x).size) : (ed x)[33]'h = num x.t.epoch := by have := ed_get_t_epoch x; rw [Array.getElem?_eq_getElem h] at this; exact Option.some.inj this
theorem ed_put_t_epoch (x : Ed) (y : UInt64) : putSeg (ed x) 33 #[num y] = ed { x with t := { x.t with epoch := y } } := by
  rw [show 33 = 33 + 0 from rfl, ed_in_t x 0 _ (by simp), cc_put_epoch, ed_put_t]
attribute [go_sem] ed_put_t_epoch
@[go_sem] theorem ed_set_t_epoch (x : Ed) (y : UInt64) : (ed x).setIfInBounds 33 (num y) = ed { x with t := { x.t with epoch := y } } := by
  rw [setIfInBounds_seg (by rw [ed_size]; decide)]; exact ed_put_t_epoch x y
@[go_sem] theorem ed_setn_t_epoch (x : Ed) (y : UInt64) : (ed x).setIfInBounds 33 (.int .u64 (y.toNat : Int)) = ed { x with t := { x.t with epoch := y } } := by
  rw [setIfInBounds_seg (by rw [ed_size]; decide)]; exact ed_put_t_epoch x y
theorem ed_rd_t_root {w : World} {b off : Nat} {x : Ed} (h : w.rangeAt b off (edL x)) : ldA w (.pointer (some ⟨b, off + 34, none⟩)) 32 = some (rc x.t.root) := cc_rd_root (ed_rg_t h)
theorem ed_rd0_t_root {w : World} {g : Nat} {t : TypeId} {fr : Nat × Nat} {x : Ed} (h : w.heap[g]? = some (.cells (ed x) t fr)) : ldA w (.pointer (some ⟨g, 34, none⟩)) 32 = some (rc x.t.root) := by have := ed_rd_t_root (x := x) (range_block h); rwa [Nat.zero_add] at this
@[go_sem] theorem ed_lda_t_root (w : World) (t : TypeId) (b : Nat) (x : Ed) (hb : b = w.heap.size) : ldA (w.alloc (.cells (ed x) t)) (.pointer (some ⟨b, 34, none⟩)) 32 = some (rc x.t.root) := by subst hb; exact ed_rd0_t_root (heap_alloc_last w _)
theorem ed_put_t_root (x : Ed) (y : Rt) : putSeg (ed x) 34 (rc y) = ed { x with t := { x.t with root := y } } := by
  rw [show 34 = 33 + 1 from rfl, ed_in_t x 1 _ (by rw [rc_size]; decide), cc_put_root, ed_put_t]
attribute [go_sem] ed_put_t_root
attribute [go_sem] ed_put_s ed_put_t
theorem part_ed (c : Array Value) (o : Nat) (r : Ed) (h : c.extract o (o + 66) = ed r) (w : World) : (part 52 c o).run Try.prog w = .ok (.agg (ed r)) w := by
  rw [part_agg (P := Try.prog) Try.isAgg52 Try.sizeOf52, h]
theorem eq_edN (d : Nat) (x y : Ed) (w : World) : (Op.equalIn (d + 4) 52 (.agg (ed x)) (.agg (ed y))).run Try.prog w = .ok (decide (x = y)) w := by
  rw [show d + 4 = (d + 3) + 1 from rfl, run_equalIn_struct w (d + 3) _ _ _ under_ed (by kernel_rfl)]
  rw [eqF_cons flds_ed (by decide) (part_cc _ _ _ (ed_get_s x) w) (part_cc _ _ _ (ed_get_s y) w) (eq_ccN (d + 0) _ _ w)
    (fun _ h1 => eqF_cons h1 (by decide) (part_cc _ _ _ (ed_get_t x) w) (part_cc _ _ _ (ed_get_t y) w) (eq_ccN (d + 0) _ _ w)
    (fun _ hn => eqF_nil hn))]
  congr 1
  rw [Bool.eq_iff_iff]
  simp only [Bool.and_eq_true, decide_eq_true_iff, and_true]
  exact ⟨fun h => Ed.ext h.1 h.2, fun h => by subst h; exact ⟨rfl, rfl⟩⟩
@[go_sem ↓] theorem eq_ed (x y : Ed) (w : World) : (Op.equalIn 10000 52 (.agg (ed x)) (.agg (ed y))).run Try.prog w = .ok (decide (x = y)) w := eq_edN 9996 x y w
theorem cellsOf_ed : Try.prog.cellsOf 52 = 66 := by kernel_rfl
end Go.Proofs.Ytkbifcfgcokmlaa
