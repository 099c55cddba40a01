/-
  box.mail: its plain data, its cells, loads, stores, literals, ==, its parts in memory, an argument; in any translation that has it. (written by wip/mkstruct.py)
-/
import Derived.Test.YtiljgnhnpoackaaPr
import Derived.Test.YtiljgnhnpoackaaBx
import Derived.Test.YtiljgnhnpoackaaNt
import Derived.Test.YtiljgnhnpoackaaSv
namespace Go.Proofs.Ytiljgnhnpoackaa
open Go.RowKit

structure Ml where
  box : Bx
  note : Nt
theorem Ml.ext {x y : Ml} (h0 : x.box = y.box) (h1 : x.note = y.note) : x = y := by cases x; cases y; simp_all
def mlL (x : Ml) : List Value := (bx x.box).toList ++ ((nt x.note).toList)
def ml (x : Ml) : Array Value := (mlL x).toArray
theorem ml_list (x : Ml) : (ml x).toList = mlL x := rfl
theorem ml_len (x : Ml) : (mlL x).length = 70 := by simp [mlL, bx_size, nt_size]
theorem ml_size (x : Ml) : (ml x).size = 70 := by rw [← Array.length_toList, ml_list, ml_len]
theorem ml_one (x : Ml) : ∀ v ∈ mlL x, v.oneCell' = true := by
  intro v hv
  unfold mlL at hv
  simp only [List.mem_append] at hv
  rcases hv with hv | hv
  · exact bx_one _ v (by rw [bx_list] at hv; exact hv)
  · exact nt_one _ v (by rw [nt_list] at hv; exact hv)
@[go_sem] theorem okA_ml (x : Ml) : okA 70 (.agg (ml x)) = true := by
  show ((ml x).size == 70 && (ml x).all (·.oneCell')) = true
  rw [show (ml x).all (·.oneCell') = true from all_one (ml_one x), ml_size]; rfl
def zml : Ml := ⟨zbx, znt⟩
theorem zero_ml (w : World) : (zeroValue 47).run Try.prog w = .ok (.agg (ml zml)) w := by kernel_rfl
@[go_sem ↓] theorem load_ml (ρ : Operand → Value) (dst : Option Tmp) (x : Operand) (ty : TypeId) (pos : String) (after : Array Edge) (guard : Option (Nat × Bool)) (w : World) :
    (execOp ρ { dst, op := .load 47 x, type := ty, pos, after, guard }).run Try.prog w = ldOut (ldA w (ρ x) 70) w (opRest Try.prog ρ { dst, op := .load 47 x, type := ty, pos, after, guard } w) :=
  run_load_out Try.isAgg47 Try.sizeOf47 ρ dst x ty pos after guard w
@[go_sem ↓] theorem store_ml (ρ : Operand → Value) (dst : Option Tmp) (x y : Operand) (ty : TypeId) (pos : String) (after : Array Edge) (guard : Option (Nat × Bool)) (w : World) :
    (execOp ρ { dst, op := .store 47 x y, type := ty, pos, after, guard }).run Try.prog w = stOut (wrA w (ρ x) 70 && okA 70 (ρ y)) (stA w (ρ x) (ρ y)) (opRest Try.prog ρ { dst, op := .store 47 x y, type := ty, pos, after, guard } w) :=
  run_store_out Try.sizeOf47 ρ dst x y ty pos after guard w
@[go_sem ↓] theorem alloc_ml (ρ : Operand → Value) (dst : Option Tmp) (ty : TypeId) (pos : String) (after : Array Edge) (guard : Option (Nat × Bool)) (w : World) :
    (execOp ρ { dst, op := .alloc 47, type := ty, pos, after, guard }).run Try.prog w = .ok (.value (.pointer (some ⟨w.heap.size, 0, none⟩))) (w.alloc (.cells (ml zml) 47)) := by
  unfold execOp
  simp only [Instr.alloc, Sem.run_bind, zero_ml, Result.andThen_ok]
  rfl
def places_ml : List (Nat × Nat) := [(0, 4), (4, 66)]
theorem fields_ml : ∀ w : World, ((Try.prog.fieldsOf 47).mapM (m := Sem) fun f => do pure (f.offset, ← Go.sizeOf f.type)).run Try.prog w = .ok places_ml.toArray w := fun _ => by kernel_rfl
theorem under_ml : Try.prog.underlying 47 = some (.struct (Try.prog.fieldsOf 47)) := by kernel_rfl
theorem flds_ml : (Try.prog.fieldsOf 47).toList.map (fun f => (f.name, f.type, f.offset)) = [("box", 24, 0), ("note", 31, 4)] := by kernel_rfl
@[go_sem ↓] theorem build_ml (ρ : Operand → Value) (dst : Option Tmp) (p : Nat × Operand) (ps : List (Nat × Operand)) (ty : TypeId) (pos : String) (after : Array Edge) (guard : Option (Nat × Bool)) (w : World) :
    (execOp ρ { dst, op := .build 47 (p :: ps).toArray, type := ty, pos, after, guard }).run Try.prog w = vOutE ((fillA places_ml (ml zml) ((p.1, ρ p.2) :: ps.map fun p => (p.1, ρ p.2))).map .agg) w (opRest Try.prog ρ { dst, op := .build 47 (p :: ps).toArray, type := ty, pos, after, guard } w) :=
  build_out zero_ml under_ml fields_ml ρ dst (p :: ps).toArray ty pos after guard w
@[go_sem ↓] theorem build0_ml (ρ : Operand → Value) (dst : Option Tmp) (ty : TypeId) (pos : String) (after : Array Edge) (guard : Option (Nat × Bool)) (w : World) :
    (execOp ρ { dst, op := .build 47 #[], type := ty, pos, after, guard }).run Try.prog w = .ok (.value (.agg (ml zml))) w :=
  build_out zero_ml under_ml fields_ml ρ dst #[] ty pos after guard w
attribute [go_sem] places_ml ml_size
theorem ml_at_box (x : Ml) : mlL x = ([]) ++ ((bx x.box).toList ++ ((nt x.note).toList)) ∧ ([] : List Value).length = 0 := by
  constructor
  · unfold mlL; simp
  · rfl
theorem ml_get_box (x : Ml) : (ml x).extract 0 (0 + 4) = bx x.box := extract_mid (ml_at_box x).1 (ml_at_box x).2 (bx_size _)
theorem ml_rd_box {w : World} {b off : Nat} {x : Ml} (h : w.rangeAt b off (mlL x)) : ldA w (.pointer (some ⟨b, off + 0, none⟩)) 4 = some (bx x.box) := range_ldA h (ml_at_box x).1 (ml_at_box x).2 (bx_size _)
theorem ml_rd0_box {w : World} {g : Nat} {t : TypeId} {fr : Nat × Nat} {x : Ml} (h : w.heap[g]? = some (.cells (ml x) t fr)) : ldA w (.pointer (some ⟨g, 0, none⟩)) 4 = some (bx x.box) := by have := ml_rd_box (x := x) (range_block h); rwa [Nat.zero_add] at this
@[go_sem] theorem ml_lda_box (w : World) (t : TypeId) (b : Nat) (x : Ml) (hb : b = w.heap.size) : ldA (w.alloc (.cells (ml x) t)) (.pointer (some ⟨b, 0, none⟩)) 4 = some (bx x.box) := by subst hb; exact ml_rd0_box (heap_alloc_last w _)
theorem ml_put_box (x : Ml) (y : Bx) : putSeg (ml x) 0 (bx y) = ml { x with box := y } := by
  rw [putSeg_mid (c := ml x) (ml_at_box x).1 (ml_at_box x).2 (by simp [bx_size])]
  simp [ml, mlL]
theorem ml_at_note (x : Ml) : mlL x = ((bx x.box).toList) ++ ((nt x.note).toList ++ ([])) ∧ ((bx x.box).toList : List Value).length = 4 := by
  constructor
  · unfold mlL; simp
  · simp [bx_size]
theorem ml_get_note (x : Ml) : (ml x).extract 4 (4 + 66) = nt x.note := extract_mid (ml_at_note x).1 (ml_at_note x).2 (nt_size _)
theorem ml_rd_note {w : World} {b off : Nat} {x : Ml} (h : w.rangeAt b off (mlL x)) : ldA w (.pointer (some ⟨b, off + 4, none⟩)) 66 = some (nt x.note) := range_ldA h (ml_at_note x).1 (ml_at_note x).2 (nt_size _)
theorem ml_rd0_note {w : World} {g : Nat} {t : TypeId} {fr : Nat × Nat} {x : Ml} (h : w.heap[g]? = some (.cells (ml x) t fr)) : ldA w (.pointer (some ⟨g, 4, none⟩)) 66 = some (nt x.note) := by have := ml_rd_note (x := x) (range_block h); rwa [Nat.zero_add] at this
@[go_sem] theorem ml_lda_note (w : World) (t : TypeId) (b : Nat) (x : Ml) (hb : b = w.heap.size) : ldA (w.alloc (.cells (ml x) t)) (.pointer (some ⟨b, 4, none⟩)) 66 = some (nt x.note) := by subst hb; exact ml_rd0_note (heap_alloc_last w _)
theorem ml_put_note (x : Ml) (y : Nt) : putSeg (ml x) 4 (nt y) = ml { x with note := y } := by
  rw [putSeg_mid (c := ml x) (ml_at_note x).1 (ml_at_note x).2 (by simp [nt_size])]
  simp [ml, mlL]
theorem ml_rg_box {w : World} {b off : Nat} {x : Ml} (h : w.rangeAt b off (mlL x)) : w.rangeAt b (off + 0) (bxL x.box) := by
  rw [← bx_list]; exact range_part h (ml_at_box x).1 (ml_at_box x).2
theorem ml_in_box (x : Ml) (o : Nat) (r : Array Value) (h : o + r.size ≤ 4) : putSeg (ml x) (0 + o) r = putSeg (ml x) 0 (putSeg (bx x.box) o r) := putSeg_in (c := ml x) (ml_at_box x).1 (ml_at_box x).2 (by rw [bx_size]; exact h)
theorem ml_rd_box_cap {w : World} {b off : Nat} {x : Ml} (h : w.rangeAt b off (mlL x)) : w.cell? ⟨b, off + 0, none⟩ = some (.int .i64 x.box.cap) := bx_rd_cap (ml_rg_box h)
theorem ml_rd0_box_cap {w : World} {g : Nat} {t : TypeId} {fr : Nat × Nat} {x : Ml} (h : w.heap[g]? = some (.cells (ml x) t fr)) : w.cell? ⟨g, 0, none⟩ = some (.int .i64 x.box.cap) := by have := ml_rd_box_cap (x := x) (range_block h); rwa [Nat.zero_add] at this
theorem ml_get_box_cap (x : Ml) : (ml x)[0]? = some (.int .i64 x.box.cap) := by have := ml_rd_box_cap (x := x) (range_block (heap_alloc_last (default : World) (.cells (ml x) 0))); rw [cell_of_row _ _ _ _ _ _ (heap_alloc_last _ _), Nat.zero_add] at this; exact this
@[go_sem] theorem ml_gi_box_cap (x : Ml) (h : 0 < (ml x).size) : (ml x)[0]'h = .int .i64 x.box.cap := by have := ml_get_box_cap x; rw [Array.getElem?_eq_getElem h] at this; exact Option.some.inj this
theorem ml_put_box_cap (x : Ml) (y : Int) : putSeg (ml x) 0 #[.int .i64 y] = ml { x with box := { x.box with cap := y } } := by
  rw [show 0 = 0 + 0 from rfl, ml_in_box x 0 _ (by simp), bx_put_cap, ml_put_box]
attribute [go_sem] ml_put_box_cap
@[go_sem] theorem ml_set_box_cap (x : Ml) (y : Int) : (ml x).setIfInBounds 0 (.int .i64 y) = ml { x with box := { x.box with cap := y } } := by
  rw [setIfInBounds_seg (by rw [ml_size]; decide)]; exact ml_put_box_cap x y
theorem ml_rd_box_l {w : World} {b off : Nat} {x : Ml} (h : w.rangeAt b off (mlL x)) : w.cell? ⟨b, off + 1, none⟩ = some (sv x.box.l) := bx_rd_l (ml_rg_box h)
theorem ml_rd0_box_l {w : World} {g : Nat} {t : TypeId} {fr : Nat × Nat} {x : Ml} (h : w.heap[g]? = some (.cells (ml x) t fr)) : w.cell? ⟨g, 1, none⟩ = some (sv x.box.l) := by have := ml_rd_box_l (x := x) (range_block h); rwa [Nat.zero_add] at this
theorem ml_get_box_l (x : Ml) : (ml x)[1]? = some (sv x.box.l) := by have := ml_rd_box_l (x := x) (range_block (heap_alloc_last (default : World) (.cells (ml x) 0))); rw [cell_of_row _ _ _ _ _ _ (heap_alloc_last _ _), Nat.zero_add] at this; exact this
@[go_sem] theorem ml_gi_box_l (x : Ml) (h : 1 < (ml x).size) : (ml x)[1]'h = sv x.box.l := by have := ml_get_box_l x; rw [Array.getElem?_eq_getElem h] at this; exact Option.some.inj this
theorem ml_put_box_l (x : Ml) (y : SlV) : putSeg (ml x) 1 #[sv y] = ml { x with box := { x.box with l := y } } := by
  rw [show 1 = 0 + 1 from rfl, ml_in_box x 1 _ (by simp), bx_put_l, ml_put_box]
attribute [go_sem] ml_put_box_l
@[go_sem] theorem ml_set_box_l (x : Ml) (y : SlV) : (ml x).setIfInBounds 1 (sv y) = ml { x with box := { x.box with l := y } } := by
  rw [setIfInBounds_seg (by rw [ml_size]; decide)]; exact ml_put_box_l x y
@[go_sem] theorem ml_sets_box_l (x : Ml) (p : Option Addr) (k c : Nat) : (ml x).setIfInBounds 1 (.slice p k c) = ml { x with box := { x.box with l := ⟨p, k, c⟩ } } := by
  rw [setIfInBounds_seg (by rw [ml_size]; decide)]; exact ml_put_box_l x ⟨p, k, c⟩
theorem ml_rd_box_lag {w : World} {b off : Nat} {x : Ml} (h : w.rangeAt b off (mlL x)) : w.cell? ⟨b, off + 2, none⟩ = some (.bool x.box.lag) := bx_rd_lag (ml_rg_box h)
theorem ml_rd0_box_lag {w : World} {g : Nat} {t : TypeId} {fr : Nat × Nat} {x : Ml} (h : w.heap[g]? = some (.cells (ml x) t fr)) : w.cell? ⟨g, 2, none⟩ = some (.bool x.box.lag) := by have := ml_rd_box_lag (x := x) (range_block h); rwa [Nat.zero_add] at this
theorem ml_get_box_lag (x : Ml) : (ml x)[2]? = some (.bool x.box.lag) := by have := ml_rd_box_lag (x := x) (range_block (heap_alloc_last (default : World) (.cells (ml x) 0))); rw [cell_of_row _ _ _ _ _ _ (heap_alloc_last _ _), Nat.zero_add] at this; exact this
@[go_sem] theorem ml_gi_box_lag (x : Ml) (h : 2 < (ml x).size) : (ml x)[2]'h = .bool x.box.lag := by have := ml_get_box_lag x; rw [Array.getElem?_eq_getElem h] at this; exact Option.some.inj this
theorem ml_put_box_lag (x : Ml) (y : Bool) : putSeg (ml x) 2 #[.bool y] = ml { x with box := { x.box with lag := y } } := by
  rw [show 2 = 0 + 2 from rfl, ml_in_box x 2 _ (by simp), bx_put_lag, ml_put_box]
attribute [go_sem] ml_put_box_lag
@[go_sem] theorem ml_set_box_lag (x : Ml) (y : Bool) : (ml x).setIfInBounds 2 (.bool y) = ml { x with box := { x.box with lag := y } } := by
  rw [setIfInBounds_seg (by rw [ml_size]; decide)]; exact ml_put_box_lag x y
theorem ml_rd_box_closed {w : World} {b off : Nat} {x : Ml} (h : w.rangeAt b off (mlL x)) : w.cell? ⟨b, off + 3, none⟩ = some (.bool x.box.closed) := bx_rd_closed (ml_rg_box h)
theorem ml_rd0_box_closed {w : World} {g : Nat} {t : TypeId} {fr : Nat × Nat} {x : Ml} (h : w.heap[g]? = some (.cells (ml x) t fr)) : w.cell? ⟨g, 3, none⟩ = some (.bool x.box.closed) := by have := ml_rd_box_closed (x := x) (range_block h); rwa [Nat.zero_add] at this
theorem ml_get_box_closed (x : Ml) : (ml x)[3]? = some (.bool x.box.closed) := by have := ml_rd_box_closed (x := x) (range_block (heap_alloc_last (default : World) (.cells (ml x) 0))); rw [cell_of_row _ _ _ _ _ _ (heap_alloc_last _ _), Nat.zero_add] at this; exact this
@[go_sem] theorem ml_gi_box_closed (x : Ml) (h : 3 < (ml x).size) : (ml x)[3]'h = .bool x.box.closed := by have := ml_get_box_closed x; rw [Array.getElem?_eq_getElem h] at this; exact Option.some.inj this
theorem ml_put_box_closed (x : Ml) (y : Bool) : putSeg (ml x) 3 #[.bool y] = ml { x with box := { x.box with closed := y } } := by
  rw [show 3 = 0 + 3 from rfl, ml_in_box x 3 _ (by simp), bx_put_closed, ml_put_box]
attribute [go_sem] ml_put_box_closed
@[go_sem] theorem ml_set_box_closed (x : Ml) (y : Bool) : (ml x).setIfInBounds 3 (.bool y) = ml { x with box := { x.box with closed := y } } := by
  rw [setIfInBounds_seg (by rw [ml_size]; decide)]; exact ml_put_box_closed x y
theorem ml_rg_note {w : World} {b off : Nat} {x : Ml} (h : w.rangeAt b off (mlL x)) : w.rangeAt b (off + 4) (ntL x.note) := by
  rw [← nt_list]; exact range_part h (ml_at_note x).1 (ml_at_note x).2
theorem ml_in_note (x : Ml) (o : Nat) (r : Array Value) (h : o + r.size ≤ 66) : putSeg (ml x) (4 + o) r = putSeg (ml x) 4 (putSeg (nt x.note) o r) := putSeg_in (c := ml x) (ml_at_note x).1 (ml_at_note x).2 (by rw [nt_size]; exact h)
theorem ml_rd_note_ver {w : World} {b off : Nat} {x : Ml} (h : w.rangeAt b off (mlL x)) : w.cell? ⟨b, off + 4, none⟩ = some (.int .i64 x.note.ver) := nt_rd_ver (ml_rg_note h)
theorem ml_rd0_note_ver {w : World} {g : Nat} {t : TypeId} {fr : Nat × Nat} {x : Ml} (h : w.heap[g]? = some (.cells (ml x) t fr)) : w.cell? ⟨g, 4, none⟩ = some (.int .i64 x.note.ver) := by have := ml_rd_note_ver (x := x) (range_block h); rwa [Nat.zero_add] at this
theorem ml_get_note_ver (x : Ml) : (ml x)[4]? = some (.int .i64 x.note.ver) := by have := ml_rd_note_ver (x := x) (range_block (heap_alloc_last (default : World) (.cells (ml x) 0))); rw [cell_of_row _ _ _ _ _ _ (heap_alloc_last _ _), Nat.zero_add] at this; exact this
@[go_sem] theorem ml_gi_note_ver (x : Ml) (h : 4 < (ml x).size) : (ml x)[4]'h = .int .i64 x.note.ver := by have := ml_get_note_ver x; rw [Array.getElem?_eq_getElem h] at this; exact Option.some.inj this
theorem ml_put_note_ver (x : Ml) (y : Int) : putSeg (ml x) 4 #[.int .i64 y] = ml { x with note := { x.note with ver := y } } := by
  rw [show 4 = 4 + 0 from rfl, ml_in_note x 0 _ (by simp), nt_put_ver, ml_put_note]
attribute [go_sem] ml_put_note_ver
@[go_sem] theorem ml_set_note_ver (x : Ml) (y : Int) : (ml x).setIfInBounds 4 (.int .i64 y) = ml { x with note := { x.note with ver := y } } := by
  rw [setIfInBounds_seg (by rw [ml_size]; decide)]; exact ml_put_note_ver x y
theorem ml_rd_note_head {w : World} {b off : Nat} {x : Ml} (h : w.rangeAt b off (mlL x)) : ldA w (.pointer (some ⟨b, off + 5, none⟩)) 32 = some (rc x.note.head) := nt_rd_head (ml_rg_note h)
theorem ml_rd0_note_head {w : World} {g : Nat} {t : TypeId} {fr : Nat × Nat} {x : Ml} (h : w.heap[g]? = some (.cells (ml x) t fr)) : ldA w (.pointer (some ⟨g, 5, none⟩)) 32 = some (rc x.note.head) := by have := ml_rd_note_head (x := x) (range_block h); rwa [Nat.zero_add] at this
@[go_sem] theorem ml_lda_note_head (w : World) (t : TypeId) (b : Nat) (x : Ml) (hb : b = w.heap.size) : ldA (w.alloc (.cells (ml x) t)) (.pointer (some ⟨b, 5, none⟩)) 32 = some (rc x.note.head) := by subst hb; exact ml_rd0_note_head (heap_alloc_last w _)
theorem ml_put_note_head (x : Ml) (y : Rt) : putSeg (ml x) 5 (rc y) = ml { x with note := { x.note with head := y } } := by
  rw [show 5 = 4 + 1 from rfl, ml_in_note x 1 _ (by rw [rc_size]; decide), nt_put_head, ml_put_note]
attribute [go_sem] ml_put_note_head
theorem ml_rd_note_fin {w : World} {b off : Nat} {x : Ml} (h : w.rangeAt b off (mlL x)) : ldA w (.pointer (some ⟨b, off + 37, none⟩)) 33 = some (cc x.note.fin) := nt_rd_fin (ml_rg_note h)
theorem ml_rd0_note_fin {w : World} {g : Nat} {t : TypeId} {fr : Nat × Nat} {x : Ml} (h : w.heap[g]? = some (.cells (ml x) t fr)) : ldA w (.pointer (some ⟨g, 37, none⟩)) 33 = some (cc x.note.fin) := by have := ml_rd_note_fin (x := x) (range_block h); rwa [Nat.zero_add] at this
@[go_sem] theorem ml_lda_note_fin (w : World) (t : TypeId) (b : Nat) (x : Ml) (hb : b = w.heap.size) : ldA (w.alloc (.cells (ml x) t)) (.pointer (some ⟨b, 37, none⟩)) 33 = some (cc x.note.fin) := by subst hb; exact ml_rd0_note_fin (heap_alloc_last w _)
theorem ml_put_note_fin (x : Ml) (y : Ck) : putSeg (ml x) 37 (cc y) = ml { x with note := { x.note with fin := y } } := by
  rw [show 37 = 4 + 33 from rfl, ml_in_note x 33 _ (by rw [cc_size]; decide), nt_put_fin, ml_put_note]
attribute [go_sem] ml_put_note_fin
theorem ml_rd_note_fin_epoch {w : World} {b off : Nat} {x : Ml} (h : w.rangeAt b off (mlL x)) : w.cell? ⟨b, off + 37, none⟩ = some (num x.note.fin.epoch) := nt_rd_fin_epoch (ml_rg_note h)
theorem ml_rd0_note_fin_epoch {w : World} {g : Nat} {t : TypeId} {fr : Nat × Nat} {x : Ml} (h : w.heap[g]? = some (.cells (ml x) t fr)) : w.cell? ⟨g, 37, none⟩ = some (num x.note.fin.epoch) := by have := ml_rd_note_fin_epoch (x := x) (range_block h); rwa [Nat.zero_add] at this
theorem ml_get_note_fin_epoch (x : Ml) : (ml x)[37]? = some (num x.note.fin.epoch) := by have := ml_rd_note_fin_epoch (x := x) (range_block (heap_alloc_last (default : World) (.cells (ml x) 0))); rw [cell_of_row _ _ _ _ _ _ (heap_alloc_last _ _), Nat.zero_add] at this; exact this
@[go_sem] theorem ml_gi_note_fin_epoch (x : Ml) (h : 37 < (ml x).size) : (ml x)[37]'h = num x.note.fin.epoch := by have := ml_get_note_fin_epoch x; rw [Array.getElem?_eq_getElem h] at this; exact Option.some.inj this
theorem ml_put_note_fin_epoch (x : Ml) (y : UInt64) : putSeg (ml x) 37 #[num y] = ml { x with note := { x.note with fin := { x.note.fin with epoch := y } } } := by
  rw [show 37 = 4 + 33 from rfl, ml_in_note x 33 _ (by simp), nt_put_fin_epoch, ml_put_note]
attribute [go_sem] ml_put_note_fin_epoch
@[go_sem] theorem ml_set_note_fin_epoch (x : Ml) (y : UInt64) : (ml x).setIfInBounds 37 (num y) = ml { x with note := { x.note with fin := { x.note.fin with epoch := y } } } := by
  rw [setIfInBounds_seg (by rw [ml_size]; decide)]; exact ml_put_note_fin_epoch x y
@[go_sem] theorem ml_setn_note_fin_epoch (x : Ml) (y : UInt64) : (ml x).setIfInBounds 37 (.int .u64 (y.toNat : Int)) = ml { x with note := { x.note with fin := { x.note.fin with epoch := y } } } := by
  rw [setIfInBounds_seg (by rw [ml_size]; decide)]; exact ml_put_note_fin_epoch x y
theorem ml_rd_note_fin_root {w : World} {b off : Nat} {x : Ml} (h : w.rangeAt b off (mlL x)) : ldA w (.pointer (some ⟨b, off + 38, none⟩)) 32 = some (rc x.note.fin.root) := nt_rd_fin_root (ml_rg_note h)
theorem ml_rd0_note_fin_root {w : World} {g : Nat} {t : TypeId} {fr : Nat × Nat} {x : Ml} (h : w.heap[g]? = some (.cells (ml x) t fr)) : ldA w (.pointer (some ⟨g, 38, none⟩)) 32 = some (rc x.note.fin.root) := by have := ml_rd_note_fin_root (x := x) (range_block h); rwa [Nat.zero_add] at this
@[go_sem] theorem ml_lda_note_fin_root (w : World) (t : TypeId) (b : Nat) (x : Ml) (hb : b = w.heap.size) : ldA (w.alloc (.cells (ml x) t)) (.pointer (some ⟨b, 38, none⟩)) 32 = some (rc x.note.fin.root) := by subst hb; exact ml_rd0_note_fin_root (heap_alloc_last w _)
theorem ml_put_note_fin_root (x : Ml) (y : Rt) : putSeg (ml x) 38 (rc y) = ml { x with note := { x.note with fin := { x.note.fin with root := y } } } := by
  rw [show 38 = 4 + 34 from rfl, ml_in_note x 34 _ (by rw [rc_size]; decide), nt_put_fin_root, ml_put_note]
attribute [go_sem] ml_put_note_fin_root
attribute [go_sem] ml_put_box ml_put_note
theorem cellsOf_ml : Try.prog.cellsOf 47 = 70 := by kernel_rfl
end Go.Proofs.Ytiljgnhnpoackaa
