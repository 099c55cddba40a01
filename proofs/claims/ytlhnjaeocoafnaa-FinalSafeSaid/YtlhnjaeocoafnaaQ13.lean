/-
  An element stored whole into a slice; for every program.
  api.Link: its plain data, its cells, loads, stores, literals, ==, its parts in memory, an argument; in any translation that has it. (written by wip/mkstruct.py)
-/
import Derived.Test.YtlhnjaeocoafnaaQ06
import Derived.Test.YtlhnjaeocoafnaaQ12
import Derived.Test.YtlhnjaeocoafnaaQ07
import Derived.Test.YtlhnjaeocoafnaaQ08
namespace Go.Proofs.Ytlhnjaeocoafnaa
open Go.RowKit
set_option maxRecDepth 100000
theorem range_join {w : World} {b o : Nat} {xs ys : List Value} (h : w.rangeAt b o xs) (k : w.rangeAt b (o + xs.length) ys) : w.rangeAt b o (xs ++ ys) := fun j v hv => by
  by_cases hj : j < xs.length
  · rw [List.getElem?_append_left hj] at hv
    exact h j v hv
  · rw [List.getElem?_append_right (by omega)] at hv
    have := k _ v hv
    rwa [show o + xs.length + (j - xs.length) = o + j by omega] at this
theorem range_left {w : World} {b o : Nat} {xs ys : List Value} (h : w.rangeAt b o (xs ++ ys)) : w.rangeAt b o xs := fun j v hv => h j v (by rw [List.getElem?_append_left (List.getElem?_eq_some_iff.1 hv).1]; exact hv)
theorem range_right {w : World} {b o : Nat} {xs ys : List Value} (h : w.rangeAt b o (xs ++ ys)) : w.rangeAt b (o + xs.length) ys := fun j v hv => by
  rw [Nat.add_assoc]
  exact h _ v (by rw [List.getElem?_append_right (by omega), Nat.add_sub_cancel_left]; exact hv)
section
variable {α : Type} {E : Lie α}
theorem cellsE_cut (l : List α) {i : Nat} (hi : i < l.length) : cellsE E l = cellsE E (l.take i) ++ (E.enc l[i] ++ cellsE E (l.drop (i + 1))) := by
  conv => lhs; rw [← List.take_append_drop i l]
  rw [cellsE_append, List.drop_eq_getElem_cons hi, cellsE_cons]
theorem cellsE_set (l : List α) {i : Nat} (hi : i < l.length) (x : α) : cellsE E (l.set i x) = cellsE E (l.take i) ++ (E.enc x ++ cellsE E (l.drop (i + 1))) := by
  rw [cellsE_cut (l.set i x) (i := i) (by rw [List.length_set]; exact hi), List.take_set_of_le (Nat.le_refl _), List.getElem_set_self, List.drop_set_of_lt (by omega)]
/-- The element's cells are those of the value, all others stay. -/
theorem range_put {w : World} {b o : Nat} {l : List α} (h : w.rangeAt b o (cellsE E l)) {i : Nat} (hi : i < l.length) (hw : wrA w (.pointer (some ⟨b, o + i * E.n, none⟩)) E.n = true) (x : α) :
    (w.setCells b (o + i * E.n) (E.enc x)).rangeAt b o (cellsE E (l.set i x)) := by
  have hlen : (cellsE E (l.take i)).length = i * E.n := by rw [cellsE_length, List.length_take, Nat.min_eq_left (by omega)]
  rw [cellsE_cut l hi] at h
  rw [cellsE_set l hi]
  have h1 := range_left h
  have h2 := range_right (range_right h)
  rw [hlen, E.len] at h2
  refine range_join (World.rangeAt_setCells_apart h1 _ _ _ (.inr (.inl (by rw [hlen]; exact Nat.le_refl _)))) (range_join ?_ ?_)
  · rw [hlen]
    exact World.rangeAt_setCells_same w b _ _ (by rw [E.len]; exact wrA_there.1 hw)
  · rw [hlen, E.len]
    exact World.rangeAt_setCells_apart h2 _ _ _ (.inr (.inr (by rw [E.len]; exact Nat.le_refl _)))
/-- An element of a row of the call's own may be written. -/
theorem ownE_wr {w : World} {base g n cap : Nat} {l : List α} (h : OwnE E w base (.slice (some ⟨g, 0, none⟩) n cap) l) (hl : l.length = n) {i : Nat} (hi : i < n) : wrA w (.pointer (some ⟨g, 0 + i * E.n, none⟩)) E.n = true := by
  subst hl
  obtain ⟨b, off, c, e, _, _, x⟩ := slE_ne (ownE_slE h) (by omega)
  injection e with e _ _
  injection e with e
  injection e with e1 e2
  subst e1 e2
  refine wrA_there.2 fun j hj => ⟨?_, ?_⟩
  · have hc : (E.enc l[i])[j]? = some ((E.enc l[i])[j]'(by rw [E.len]; exact hj)) := List.getElem?_eq_getElem _
    rw [cell_at x hi hc]
    rfl
  · exact World.ownsRow.frozenAt h _
end
end Go.Proofs.Ytlhnjaeocoafnaa
namespace Go.Proofs.Ytlhnjaeocoafnaa
open Go.RowKit
set_option maxRecDepth 100000

def lkL (x : Lk) : List Value := (cc x.s).toList ++ ((cc x.t).toList ++ ([num x.mask]))
def lk (x : Lk) : Array Value := (lkL x).toArray
theorem lk_list (x : Lk) : (lk x).toList = lkL x := rfl
theorem lk_len (x : Lk) : (lkL x).length = 67 := by simp [lkL, cc_size]
theorem lk_size (x : Lk) : (lk x).size = 67 := by rw [← Array.length_toList, lk_list, lk_len]
theorem lk_one (x : Lk) : ∀ v ∈ lkL x, v.oneCell' = true := by
  intro v hv
  unfold lkL at hv
  simp only [List.mem_append, List.mem_singleton] at hv
  rcases hv with hv | hv | rfl
  · exact cc_one _ v (by rw [cc_list] at hv; exact hv)
  · exact cc_one _ v (by rw [cc_list] at hv; exact hv)
  · rfl
@[go_sem] theorem okA_lk (x : Lk) : okA 67 (.agg (lk x)) = true := by
  show ((lk x).size == 67 && (lk x).all (·.oneCell')) = true
  rw [show (lk x).all (·.oneCell') = true from all_one (lk_one x), lk_size]; rfl
def zlk : Lk := ⟨zcc, zcc, 0⟩
theorem zero_lk (w : World) : (zeroValue 63).run Try.prog w = .ok (.agg (lk zlk)) w := by kernel_rfl
@[go_sem ↓] theorem load_lk (ρ : Operand → Value) (dst : Option Tmp) (x : Operand) (ty : TypeId) (pos : String) (after : Array Edge) (guard : Option (Nat × Bool)) (w : World) :
    (execOp ρ { dst, op := .load 63 x, type := ty, pos, after, guard }).run Try.prog w = ldOut (ldA w (ρ x) 67) w (opRest Try.prog ρ { dst, op := .load 63 x, type := ty, pos, after, guard } w) :=
  run_load_out Try.isAgg63 Try.sizeOf63 ρ dst x ty pos after guard w
@[go_sem ↓] theorem store_lk (ρ : Operand → Value) (dst : Option Tmp) (x y : Operand) (ty : TypeId) (pos : String) (after : Array Edge) (guard : Option (Nat × Bool)) (w : World) :
    (execOp ρ { dst, op := .store 63 x y, type := ty, pos, after, guard }).run Try.prog w = stOut (wrA w (ρ x) 67 && okA 67 (ρ y)) (stA w (ρ x) (ρ y)) (opRest Try.prog ρ { dst, op := .store 63 x y, type := ty, pos, after, guard } w) :=
  run_store_out Try.sizeOf63 ρ dst x y ty pos after guard w
@[go_sem ↓] theorem alloc_lk (ρ : Operand → Value) (dst : Option Tmp) (ty : TypeId) (pos : String) (after : Array Edge) (guard : Option (Nat × Bool)) (w : World) :
    (execOp ρ { dst, op := .alloc 63, type := ty, pos, after, guard }).run Try.prog w = .ok (.value (.pointer (some ⟨w.heap.size, 0, none⟩))) (w.alloc (.cells (lk zlk) 63)) := by
  unfold execOp
  simp only [Instr.alloc, Sem.run_bind, zero_lk, Result.andThen_ok]
  rfl
def places_lk : List (Nat × Nat) := [(0, 33), (33, 33), (66, 1)]
theorem fields_lk : ∀ w : World, ((Try.prog.fieldsOf 63).mapM (m := Sem) fun f => do pure (f.offset, ← Go.sizeOf f.type)).run Try.prog w = .ok places_lk.toArray w := fun _ => by kernel_rfl
theorem under_lk : Try.prog.underlying 63 = some (.struct (Try.prog.fieldsOf 63)) := by kernel_rfl
theorem flds_lk : (Try.prog.fieldsOf 63).toList.map (fun f => (f.name, f.type, f.offset)) = [("S", 32, 0), ("T", 32, 33), ("Mask", 28, 66)] := by kernel_rfl
@[go_sem ↓] theorem build_lk (ρ : Operand → Value) (dst : Option Tmp) (p : Nat × Operand) (ps : List (Nat × Operand)) (ty : TypeId) (pos : String) (after : Array Edge) (guard : Option (Nat × Bool)) (w : World) :
    (execOp ρ { dst, op := .build 63 (p :: ps).toArray, type := ty, pos, after, guard }).run Try.prog w = vOutE ((fillA places_lk (lk zlk) ((p.1, ρ p.2) :: ps.map fun p => (p.1, ρ p.2))).map .agg) w (opRest Try.prog ρ { dst, op := .build 63 (p :: ps).toArray, type := ty, pos, after, guard } w) :=
  build_out zero_lk under_lk fields_lk ρ dst (p :: ps).toArray ty pos after guard w
@[go_sem ↓] theorem build0_lk (ρ : Operand → Value) (dst : Option Tmp) (ty : TypeId) (pos : String) (after : Array Edge) (guard : Option (Nat × Bool)) (w : World) :
    (execOp ρ { dst, op := .build 63 #[], type := ty, pos, after, guard }).run Try.prog w = .ok (.value (.agg (lk zlk))) w :=
  build_out zero_lk under_lk fields_lk ρ dst #[] ty pos after guard w
attribute [go_sem] places_lk lk_size
theorem lk_at_s (x : Lk) : lkL x = ([]) ++ ((cc x.s).toList ++ ((cc x.t).toList ++ ([num x.mask]))) ∧ ([] : List Value).length = 0 := by
  constructor
  · unfold lkL; simp
  · rfl
theorem lk_get_s (x : Lk) : (lk x).extract 0 (0 + 33) = cc x.s := extract_mid (lk_at_s x).1 (lk_at_s x).2 (cc_size _)
theorem lk_rd_s {w : World} {b off : Nat} {x : Lk} (h : w.rangeAt b off (lkL x)) : ldA w (.pointer (some ⟨b, off + 0, none⟩)) 33 = some (cc x.s) := range_ldA h (lk_at_s x).1 (lk_at_s x).2 (cc_size _)
theorem lk_rd0_s {w : World} {g : Nat} {t : TypeId} {fr : Nat × Nat} {x : Lk} (h : w.heap[g]? = some (.cells (lk x) t fr)) : ldA w (.pointer (some ⟨g, 0, none⟩)) 33 = some (cc x.s) := by have := lk_rd_s (x := x) (range_block h); rwa [Nat.zero_add] at this
@[go_sem] theorem lk_lda_s (w : World) (t : TypeId) (b : Nat) (x : Lk) (hb : b = w.heap.size) : ldA (w.alloc (.cells (lk x) t)) (.pointer (some ⟨b, 0, none⟩)) 33 = some (cc x.s) := by subst hb; exact lk_rd0_s (heap_alloc_last w _)
theorem lk_put_s (x : Lk) (y : Ck) : putSeg (lk x) 0 (cc y) = lk { x with s := y } := by
  rw [putSeg_mid (c := lk x) (lk_at_s x).1 (lk_at_s x).2 (by simp [cc_size])]
  simp [lk, lkL]
theorem lk_at_t (x : Lk) : lkL x = ((cc x.s).toList) ++ ((cc x.t).toList ++ ([num x.mask])) ∧ ((cc x.s).toList : List Value).length = 33 := by
  constructor
  · unfold lkL; simp
  · simp [cc_size]
theorem lk_get_t (x : Lk) : (lk x).extract 33 (33 + 33) = cc x.t := extract_mid (lk_at_t x).1 (lk_at_t x).2 (cc_size _)
theorem lk_rd_t {w : World} {b off : Nat} {x : Lk} (h : w.rangeAt b off (lkL x)) : ldA w (.pointer (some ⟨b, off + 33, none⟩)) 33 = some (cc x.t) := range_ldA h (lk_at_t x).1 (lk_at_t x).2 (cc_size _)
theorem lk_rd0_t {w : World} {g : Nat} {t : TypeId} {fr : Nat × Nat} {x : Lk} (h : w.heap[g]? = some (.cells (lk x) t fr)) : ldA w (.pointer (some ⟨g, 33, none⟩)) 33 = some (cc x.t) := by have := lk_rd_t (x := x) (range_block h); rwa [Nat.zero_add] at this
@[go_sem] theorem lk_lda_t (w : World) (t : TypeId) (b : Nat) (x : Lk) (hb : b = w.heap.size) : ldA (w.alloc (.cells (lk x) t)) (.pointer (some ⟨b, 33, none⟩)) 33 = some (cc x.t) := by subst hb; exact lk_rd0_t (heap_alloc_last w _)
theorem lk_put_t (x : Lk) (y : Ck) : putSeg (lk x) 33 (cc y) = lk { x with t := y } := by
  rw [putSeg_mid (c := lk x) (lk_at_t x).1 (lk_at_t x).2 (by simp [cc_size])]
  simp [lk, lkL]
theorem lk_at_mask (x : Lk) : lkL x = ((cc x.s).toList ++ (cc x.t).toList) ++ ([num x.mask] ++ ([])) ∧ ((cc x.s).toList ++ (cc x.t).toList : List Value).length = 66 := by
  constructor
  · unfold lkL; simp
  · simp [cc_size]
theorem lk_get_mask (x : Lk) : (lk x)[66]? = some (num x.mask) := get_at (lk_at_mask x).1 (lk_at_mask x).2
@[go_sem] theorem lk_gi_mask (x : Lk) (h : 66 < (lk x).size) : (lk x)[66]'h = num x.mask := by have := lk_get_mask x; rw [Array.getElem?_eq_getElem h] at this; exact Option.some.inj this
theorem lk_rd_mask {w : World} {b off : Nat} {x : Lk} (h : w.rangeAt b off (lkL x)) : w.cell? ⟨b, off + 66, none⟩ = some (num x.mask) := range_one h (lk_at_mask x).1 (lk_at_mask x).2
theorem lk_rd0_mask {w : World} {g : Nat} {t : TypeId} {fr : Nat × Nat} {x : Lk} (h : w.heap[g]? = some (.cells (lk x) t fr)) : w.cell? ⟨g, 66, none⟩ = some (num x.mask) := by have := lk_rd_mask (x := x) (range_block h); rwa [Nat.zero_add] at this
theorem lk_put_mask (x : Lk) (y : UInt64) : putSeg (lk x) 66 #[num y] = lk { x with mask := y } := by
  rw [putSeg_mid (c := lk x) (r := #[num y]) (lk_at_mask x).1 (lk_at_mask x).2 rfl]
  simp [lk, lkL]
theorem lk_rg_s {w : World} {b off : Nat} {x : Lk} (h : w.rangeAt b off (lkL x)) : w.rangeAt b (off + 0) (ccL x.s) := by
  rw [← cc_list]; exact range_part h (lk_at_s x).1 (lk_at_s x).2
theorem lk_in_s (x : Lk) (o : Nat) (r : Array Value) (h : o + r.size ≤ 33) : putSeg (lk x) (0 + o) r = putSeg (lk x) 0 (putSeg (cc x.s) o r) := putSeg_in (c := lk x) (lk_at_s x).1 (lk_at_s x).2 (by rw [cc_size]; exact h)
theorem lk_rd_s_epoch {w : World} {b off : Nat} {x : Lk} (h : w.rangeAt b off (lkL x)) : w.cell? ⟨b, off + 0, none⟩ = some (num x.s.epoch) := cc_rd_epoch (lk_rg_s h)
theorem lk_rd0_s_epoch {w : World} {g : Nat} {t : TypeId} {fr : Nat × Nat} {x : Lk} (h : w.heap[g]? = some (.cells (lk x) t fr)) : w.cell? ⟨g, 0, none⟩ = some (num x.s.epoch) := by have := lk_rd_s_epoch (x := x) (range_block h); rwa [Nat.zero_add] at this
theorem lk_get_s_epoch (x : Lk) : (lk x)[0]? = some (num x.s.epoch) := by have := lk_rd_s_epoch (x := x) (range_block (heap_alloc_last (default : World) (.cells (lk x) 0))); rw [cell_of_row _ _ _ _ _ _ (heap_alloc_last _ _), Nat.zero_add] at this; exact this
@[go_sem] theorem lk_gi_s_epoch (x : Lk) (h : 0 < (lk x).size) : (lk x)[0]'h = num x.s.epoch := by have := lk_get_s_epoch x; rw [Array.getElem?_eq_getElem h] at this; exact Option.some.inj this
theorem lk_put_s_epoch (x : Lk) (y : UInt64) : putSeg (lk x) 0 #[num y] = lk { x with s := { x.s with epoch := y } } := by
  rw [show 0 = 0 + 0 from rfl, lk_in_s x 0 _ (by simp), cc_put_epoch, lk_put_s]
attribute [go_sem] lk_put_s_epoch
@[go_sem] theorem lk_set_s_epoch (x : Lk) (y : UInt64) : (lk x).setIfInBounds 0 (num y) = lk { x with s := { x.s with epoch := y } } := by
  rw [setIfInBounds_seg (by rw [lk_size]; decide)]; exact lk_put_s_epoch x y
@[go_sem] theorem lk_setn_s_epoch (x : Lk) (y : UInt64) : (lk x).setIfInBounds 0 (.int .u64 (y.toNat : Int)) = lk { x with s := { x.s with epoch := y } } := by
  rw [setIfInBounds_seg (by rw [lk_size]; decide)]; exact lk_put_s_epoch x y
theorem lk_rd_s_root {w : World} {b off : Nat} {x : Lk} (h : w.rangeAt b off (lkL x)) : ldA w (.pointer (some ⟨b, off + 1, none⟩)) 32 = some (rc x.s.root) := cc_rd_root (lk_rg_s h)
theorem lk_rd0_s_root {w : World} {g : Nat} {t : TypeId} {fr : Nat × Nat} {x : Lk} (h : w.heap[g]? = some (.cells (lk x) t fr)) : ldA w (.pointer (some ⟨g, 1, none⟩)) 32 = some (rc x.s.root) := by have := lk_rd_s_root (x := x) (range_block h); rwa [Nat.zero_add] at this
@[go_sem] theorem lk_lda_s_root (w : World) (t : TypeId) (b : Nat) (x : Lk) (hb : b = w.heap.size) : ldA (w.alloc (.cells (lk x) t)) (.pointer (some ⟨b, 1, none⟩)) 32 = some (rc x.s.root) := by subst hb; exact lk_rd0_s_root (heap_alloc_last w _)
theorem lk_put_s_root (x : Lk) (y : Rt) : putSeg (lk x) 1 (rc y) = lk { x with s := { x.s with root := y } } := by
  rw [show 1 = 0 + 1 from rfl, lk_in_s x 1 _ (by rw [rc_size]; decide), cc_put_root, lk_put_s]
attribute [go_sem] lk_put_s_root
theorem lk_rg_t {w : World} {b off : Nat} {x : Lk} (h : w.rangeAt b off (lkL x)) : w.rangeAt b (off + 33) (ccL x.t) := by
  rw [← cc_list]; exact range_part h (lk_at_t x).1 (lk_at_t x).2
theorem lk_in_t (x : Lk) (o : Nat) (r : Array Value) (h : o + r.size ≤ 33) : putSeg (lk x) (33 + o) r = putSeg (lk x) 33 (putSeg (cc x.t) o r) := putSeg_in (c := lk x) (lk_at_t x).1 (lk_at_t x).2 (by rw [cc_size]; exact h)
theorem lk_rd_t_epoch {w : World} {b off : Nat} {x : Lk} (h : w.rangeAt b off (lkL x)) : w.cell? ⟨b, off + 33, none⟩ = some (num x.t.epoch) := cc_rd_epoch (lk_rg_t h)
theorem lk_rd0_t_epoch {w : World} {g : Nat} {t : TypeId} {fr : Nat × Nat} {x : Lk} (h : w.heap[g]? = some (.cells (lk x) t fr)) : w.cell? ⟨g, 33, none⟩ = some (num x.t.epoch) := by have := lk_rd_t_epoch (x := x) (range_block h); rwa [Nat.zero_add] at this
theorem lk_get_t_epoch (x : Lk) : (lk x)[33]? = some (num x.t.epoch) := by have := lk_rd_t_epoch (x := x) (range_block (heap_alloc_last (default : World) (.cells (lk x) 0))); rw [cell_of_row _ _ _ _ _ _ (heap_alloc_last _ _), Nat.zero_add] at this; exact this
@[go_sem] theorem lk_gi_t_epoch (x : Lk) (h : 33 < (lk x).size) : (lk x)[33]'h = num x.t.epoch := by have := lk_get_t_epoch x; rw [Array.getElem?_eq_getElem h] at this; exact Option.some.inj this
theorem lk_put_t_epoch (x : Lk) (y : UInt64) : putSeg (lk x) 33 #[num y] = lk { x with t := { x.t with epoch := y } } := by
  rw [show 33 = 33 + 0 from rfl, lk_in_t x 0 _ (by simp), cc_put_epoch, lk_put_t]
attribute [go_sem] lk_put_t_epoch
@[go_sem] theorem lk_set_t_epoch (x : Lk) (y : UInt64) : (lk x).setIfInBounds 33 (num y) = lk { x with t := { x.t with epoch := y } } := by
  rw [setIfInBounds_seg (by rw [lk_size]; decide)]; exact lk_put_t_epoch x y
@[go_sem] theorem lk_setn_t_epoch (x : Lk) (y : UInt64) : (lk x).setIfInBounds 33 (.int .u64 (y.toNat : Int)) = lk { x with t := { x.t with epoch := y } } := by
  rw [setIfInBounds_seg (by rw [lk_size]; decide)]; exact lk_put_t_epoch x y
theorem lk_rd_t_root {w : World} {b off : Nat} {x : Lk} (h : w.rangeAt b off (lkL x)) : ldA w (.pointer (some ⟨b, off + 34, none⟩)) 32 = some (rc x.t.root) := cc_rd_root (lk_rg_t h)
theorem lk_rd0_t_root {w : World} {g : Nat} {t : TypeId} {fr : Nat × Nat} {x : Lk} (h : w.heap[g]? = some (.cells (lk x) t fr)) : ldA w (.pointer (some ⟨g, 34, none⟩)) 32 = some (rc x.t.root) := by have := lk_rd_t_root (x := x) (range_block h); rwa [Nat.zero_add] at this
@[go_sem] theorem lk_lda_t_root (w : World) (t : TypeId) (b : Nat) (x : Lk) (hb : b = w.heap.size) : ldA (w.alloc (.cells (lk x) t)) (.pointer (some ⟨b, 34, none⟩)) 32 = some (rc x.t.root) := by subst hb; exact lk_rd0_t_root (heap_alloc_last w _)
theorem lk_put_t_root (x : Lk) (y : Rt) : putSeg (lk x) 34 (rc y) = lk { x with t := { x.t with root := y } } := by
  rw [show 34 = 33 + 1 from rfl, lk_in_t x 1 _ (by rw [rc_size]; decide), cc_put_root, lk_put_t]
attribute [go_sem] lk_put_t_root
@[go_sem] theorem lk_set_mask (x : Lk) (y : UInt64) : (lk x).setIfInBounds 66 (num y) = lk { x with mask := y } := by
  rw [setIfInBounds_seg (by rw [lk_size]; decide)]; exact lk_put_mask x y
@[go_sem] theorem lk_setn_mask (x : Lk) (y : UInt64) : (lk x).setIfInBounds 66 (.int .u64 (y.toNat : Int)) = lk { x with mask := y } := by
  rw [setIfInBounds_seg (by rw [lk_size]; decide)]; exact lk_put_mask x y
attribute [go_sem] lk_put_s lk_put_t lk_put_mask
@[go_sem] theorem lk_putn_mask (x : Lk) (y : UInt64) : putSeg (lk x) 66 #[.int .u64 (y.toNat : Int)] = lk { x with mask := y } := lk_put_mask x y
theorem part_lk (c : Array Value) (o : Nat) (r : Lk) (h : c.extract o (o + 67) = lk r) (w : World) : (part 63 c o).run Try.prog w = .ok (.agg (lk r)) w := by
  rw [part_agg (P := Try.prog) Try.isAgg63 Try.sizeOf63, h]
theorem eq_lkN (d : Nat) (x y : Lk) (w : World) : (Op.equalIn (d + 4) 63 (.agg (lk x)) (.agg (lk y))).run Try.prog w = .ok (decide (x = y)) w := by
  rw [show d + 4 = (d + 3) + 1 from rfl, run_equalIn_struct w (d + 3) _ _ _ under_lk (by kernel_rfl)]
  rw [eqF_cons flds_lk (by decide) (part_cc _ _ _ (lk_get_s x) w) (part_cc _ _ _ (lk_get_s y) w) (eq_ccN (d + 0) _ _ w)
    (fun _ h1 => eqF_cons h1 (by decide) (part_cc _ _ _ (lk_get_t x) w) (part_cc _ _ _ (lk_get_t y) w) (eq_ccN (d + 0) _ _ w)
    (fun _ h2 => eqF_cons h2 (by decide) (partN _ _ _ (lk_get_mask x) w) (partN _ _ _ (lk_get_mask y) w) (eqNum (d + 2) _ _ w)
    (fun _ hn => eqF_nil hn)))]
  congr 1
  rw [Bool.eq_iff_iff]
  simp only [Bool.and_eq_true, decide_eq_true_iff, and_true]
  exact ⟨fun h => Lk.ext h.1 h.2.1 h.2.2, fun h => by subst h; exact ⟨rfl, rfl, rfl⟩⟩
@[go_sem ↓] theorem eq_lk (x y : Lk) (w : World) : (Op.equalIn 10000 63 (.agg (lk x)) (.agg (lk y))).run Try.prog w = .ok (decide (x = y)) w := eq_lkN 9996 x y w
theorem cellsOf_lk : Try.prog.cellsOf 63 = 67 := by kernel_rfl
section
open Go.WideShapes Go.ChangeShapes
variable {H : Type} {enc : TypeId × Value → H} {w : World} {base : Nat} {sp : Nat → Bool} {held : Bool}
set_option maxRecDepth 100000 in
theorem cells_lk {fuel : Nat} {cs : List Value} {x : DataW H × List MemPlace} (hl : cs.length = 67) (h : DataW.trod enc Try.prog w base sp held fuel 63 cs = some x) : ∃ a : Lk, cs = lkL a := by
  obtain ⟨_, _, h0⟩ := trod_field (i := 0) under_lk flds_lk rfl h
  rw [cellsOf_cc] at h0
  obtain ⟨a0, e0⟩ := cells_cc (by rw [List.length_take, List.length_drop]; omega) h0
  rw [← cc_list] at e0
  obtain ⟨_, _, h1⟩ := trod_field (i := 1) under_lk flds_lk rfl h
  rw [cellsOf_cc] at h1
  obtain ⟨a1, e1⟩ := cells_cc (by rw [List.length_take, List.length_drop]; omega) h1
  rw [← cc_list] at e1
  obtain ⟨_, _, h2⟩ := trod_field (i := 2) under_lk flds_lk rfl h
  rw [cellsOf_num] at h2
  obtain ⟨a2, e2⟩ := cells_num h2
  refine ⟨⟨a0, a1, a2⟩, ?_⟩
  unfold lkL
  have j0 := seg_join cs 0 33
  rw [e0] at j0
  have j1 := seg_join cs 33 33
  rw [e1] at j1
  have j2 := seg_join cs 66 1
  rw [e2] at j2
  have jl : cs.drop 67 = [] := List.drop_of_length_le (by omega)
  rw [show (66 + 1) = 67 from rfl, jl, List.append_nil] at j2
  rw [← List.drop_zero (l := cs)]
  rw [← j0]
  rw [show cs.drop (0 + 33) = cs.drop 33 from rfl, ← j1]
  rw [show cs.drop (33 + 33) = cs.drop 66 from rfl, ← j2]
  try rfl
set_option maxRecDepth 100000 in
theorem open_lk {r : Reach} {b0 : Nat} {v : Value} {d : DataW H} {ps : List MemPlace} (hval : Value.okWide Try.prog w r b0 63 v) (hd : DataW.Trod enc Try.prog w base sp held 63 v d ps) : ∃ a : Lk, v = .agg (lk a) := by
  obtain ⟨xs, rfl, hn⟩ := okWide_struct under_lk hval
  rw [cellsOf_lk] at hn
  obtain ⟨fuel, hf⟩ := hd
  obtain ⟨a, ha⟩ := cells_lk (cs := xs.toList) (by rw [Array.length_toList, hn]) hf
  exact ⟨a, by rw [show xs = lk a from Array.toList_inj.1 ha]⟩
end
def Elk : Lie Lk := ⟨63, 67, lkL, by decide, lk_len, lk_one⟩
attribute [irreducible] lk
end Go.Proofs.Ytlhnjaeocoafnaa
