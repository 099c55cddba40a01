/-
  Blocks, checkpoints and attestations in memory: their cells, variables, fields, literals, == and arguments; in any translation that has the types.
-/
import Derived.Test.YtjdpndclgmdahaaWireP
import Derived.Laws.StructEq
namespace Go.Proofs.Ytjdpndclgmdahaa
open Go.RowKit

/-! ### A stretch of cells laid over others -/
def putSeg (c : Array Value) (o : Nat) (r : Array Value) : Array Value := (c.toList.take o ++ (r.toList ++ c.toList.drop (o + r.size))).toArray
theorem putSeg_mid {c : Array Value} {x y z : List Value} {o : Nat} {r : Array Value} (hc : c.toList = x ++ (y ++ z)) (hx : x.length = o) (hy : y.length = r.size) : putSeg c o r = (x ++ (r.toList ++ z)).toArray := by
  unfold putSeg
  rw [hc, List.take_left' hx, ← List.drop_drop, List.drop_left' hx, List.drop_left' hy]
theorem putSeg_size {c : Array Value} {o : Nat} {r : Array Value} (h : o + r.size ≤ c.size) : (putSeg c o r).size = c.size := by
  unfold putSeg
  simp
  omega
theorem putSeg_get {c : Array Value} {o : Nat} {r : Array Value} (h : o + r.size ≤ c.size) (j : Nat) : (putSeg c o r)[j]? = if o ≤ j ∧ j < o + r.size then r[j - o]? else c[j]? := by
  unfold putSeg
  rw [List.getElem?_toArray]
  by_cases h1 : j < o
  · rw [if_neg (by omega), List.getElem?_append_left (by rw [List.length_take, Array.length_toList]; omega), List.getElem?_take, if_pos h1]
    simp
  · have hl : (c.toList.take o).length = o := by rw [List.length_take, Array.length_toList]; omega
    rw [List.getElem?_append_right (by omega), hl]
    by_cases h2 : j < o + r.size
    · rw [if_pos (by omega), List.getElem?_append_left (by rw [Array.length_toList]; omega)]
      simp
    · rw [if_neg (by omega), List.getElem?_append_right (by rw [Array.length_toList]; omega), List.getElem?_drop, Array.length_toList]
      rw [show o + r.size + (j - o - r.size) = j by omega]
      simp
theorem foldl_seg : ∀ (vs : List Value) (k o : Nat) (c : Array Value) (j : Nat), (((vs.zipIdx k).foldl (fun c (p : Value × Nat) => c.setIfInBounds (o + p.2) p.1) c) : Array Value)[j]? = if o + k ≤ j ∧ j < o + k + vs.length ∧ j < c.size then vs[j - (o + k)]? else c[j]?
  | [], k, o, c, j => by
    simp
    intros; omega
  | v :: r, k, o, c, j => by
    rw [List.zipIdx_cons, List.foldl_cons, foldl_seg r (k + 1) o _ j]
    simp only [Array.size_setIfInBounds, Array.getElem?_setIfInBounds, List.length_cons]
    by_cases h1 : o + (k + 1) ≤ j ∧ j < o + (k + 1) + r.length ∧ j < c.size
    · rw [if_pos h1, if_pos (by omega), show j - (o + k) = (j - (o + (k + 1))) + 1 by omega]
      simp
    · rw [if_neg h1]
      by_cases h2 : o + k = j
      · subst h2
        by_cases h3 : o + k < c.size
        · rw [if_pos rfl, if_pos h3, if_pos (by omega)]; simp
        · rw [if_pos rfl, if_neg h3, if_neg (by omega), Array.getElem?_eq_none (by omega)]
      · rw [if_neg h2, if_neg (by omega)]
theorem fill_seg (c : Array Value) (o : Nat) (r : Array Value) (h : o + r.size ≤ c.size) : (r.zipIdx.foldl (fun cs (p : Value × Nat) => cs.setIfInBounds (o + p.2) p.1) c) = putSeg c o r := by
  have e : (r.zipIdx.foldl (fun cs (p : Value × Nat) => cs.setIfInBounds (o + p.2) p.1) c) = ((r.toList.zipIdx 0).foldl (fun c (p : Value × Nat) => c.setIfInBounds (o + p.2) p.1) c) := by
    rw [← Array.foldl_toList, Array.toList_zipIdx]
  rw [e]
  apply Array.ext_getElem?
  intro j
  rw [foldl_seg, putSeg_get h]
  by_cases hj : o ≤ j ∧ j < o + r.size
  · rw [if_pos (by simp; omega), if_pos hj]; simp
  · rw [if_neg (by simp; omega), if_neg hj]
theorem fill_cons (place : Nat → Option (Nat × Nat)) (c : Array Value) (i : Nat) (v : Value) (rest : List (Nat × Value)) (off size : Nat) (hp : place i = some (off, size)) (hs : v.cells.size = size) (hf : off + size ≤ c.size) : Instr.fill place c ((i, v) :: rest) = Instr.fill place (putSeg c off v.cells) rest := by
  rw [Instr.fill]
  simp only [hp]
  rw [if_neg (by simp; omega)]
  congr 1
  exact fill_seg c off v.cells (by omega)

/-! ### A block of a known number of cells -/
section
variable {w : World} {g : Nat} {c : Array Value} {t : TypeId} {fr : Nat × Nat}
theorem ldA_mid {x z : List Value} {o n : Nat} {r : Array Value} (hg : w.heap[g]? = some (.cells c t fr)) (hc : c.toList = x ++ (r.toList ++ z)) (hx : x.length = o) (hr : r.size = n) : ldA w (.pointer (some ⟨g, o, none⟩)) n = some r := by
  refine ldA_mk hr fun j v hv => ?_
  rw [cell_of_row _ _ (o + j) c t _ hg]
  have hj : j < r.toList.length := (List.getElem?_eq_some_iff.1 hv).1
  rw [← Array.getElem?_toList, hc, List.getElem?_append_right (by omega), show o + j - x.length = j by omega, List.getElem?_append_left hj]
  exact hv
theorem cell_at {x z : List Value} {o : Nat} {v : Value} (hg : w.heap[g]? = some (.cells c t fr)) (hc : c.toList = x ++ (v :: z)) (hx : x.length = o) : w.cell? ⟨g, o, none⟩ = some v := by
  rw [cell_of_row _ _ o c t _ hg, ← Array.getElem?_toList, hc, List.getElem?_append_right (by omega), show o - x.length = 0 by omega]
  rfl
theorem slB_mid {x z : List Value} {o : Nat} {r : Rt} (hg : w.heap[g]? = some (.cells c t fr)) (hc : c.toList = x ++ ((rc r).toList ++ z)) (hx : x.length = o) : SlB w (.slice (some ⟨g, o, none⟩) 32 32) r.toList := by
  refine ⟨some ⟨g, o, none⟩, 32, by rw [rt_length], by rw [rt_length]; omega, .inr ⟨g, o, rfl, (Array.getElem?_eq_some_iff.1 hg).1, fun i hi => ?_⟩⟩
  rw [rt_length] at hi
  have h := ldA_mid hg hc hx (rc_size r)
  have := (ldA_range h).2 i _ (by rw [Array.getElem?_toList]; exact rc_get r i hi)
  rw [this, at8_bt]
theorem wrA_mid {o n : Nat} (hg : w.heap[g]? = some (.cells c t (0, 0))) (h : o + n ≤ c.size) : wrA w (.pointer (some ⟨g, o, none⟩)) n = true := by
  rw [wrA_there]
  intro j hj
  rw [cell_of_row _ _ (o + j) c t _ hg, frozen_of_row _ _ (o + j) c t hg]
  exact ⟨by rw [Array.getElem?_eq_getElem (by omega)]; rfl, rfl⟩
theorem heap_setCell_same (hg : w.heap[g]? = some (.cells c t (0, 0))) (o : Nat) (v : Value) : (w.setCell ⟨g, o, none⟩ v).heap[g]? = some (.cells (c.setIfInBounds o v) t (0, 0)) := by
  rw [setCell_eq_setRow w g o c t (0, 0) v hg]
  exact setRow_heap w g c _ t _ hg
theorem heap_setCells_same : ∀ (vs : List Value) (o : Nat) (w : World) (c : Array Value), w.heap[g]? = some (.cells c t (0, 0)) → (w.setCells g o vs).heap[g]? = some (.cells ((vs.zipIdx o).foldl (fun c p => c.setIfInBounds p.2 p.1) c) t (0, 0))
  | [], _, _, _, hg => hg
  | v :: r, o, w, c, hg => by
    rw [World.setCells, heap_setCells_same r (o + 1) _ _ (heap_setCell_same hg o v)]
    rfl
theorem heap_stA_same {o : Nat} {r : Array Value} (hg : w.heap[g]? = some (.cells c t (0, 0))) (h : o + r.size ≤ c.size) : (stA w (.pointer (some ⟨g, o, none⟩)) (.agg r)).heap[g]? = some (.cells (putSeg c o r) t (0, 0)) := by
  show (w.setCells g o r.toList).heap[g]? = _
  rw [heap_setCells_same r.toList o w c hg]
  congr 2
  apply Array.ext_getElem?
  intro j
  rw [foldl_set, putSeg_get h]
  by_cases hj : o ≤ j ∧ j < o + r.size
  · rw [if_pos (by simp; omega), if_pos hj]; simp
  · rw [if_neg (by simp; omega), if_neg hj]
theorem setIfInBounds_seg {o : Nat} {v : Value} (h : o < c.size) : c.setIfInBounds o v = putSeg c o #[v] := by
  apply Array.ext_getElem?
  intro j
  rw [putSeg_get (by simp; omega), Array.getElem?_setIfInBounds]
  by_cases hj : o = j
  · subst hj; rw [if_pos rfl, if_pos h, if_pos (by simp)]; simp
  · rw [if_neg hj, if_neg (by simp; omega)]
end

/-! ### The cells -/
def num (n : UInt64) : Value := .int .u64 (n.toNat : Int)
attribute [go_sem] num
def cc (x : Ck) : Array Value := (num x.epoch :: (rc x.root).toList).toArray
def bc (b : Blk) : Array Value := ((rc b.root).toList ++ ((rc b.parent).toList ++ [num b.slot, num b.just])).toArray
def ac (a : At) : Array Value := (.int .i64 a.val :: num a.slot :: ((rc a.head).toList ++ ((cc a.source).toList ++ (cc a.target).toList))).toArray
theorem rc_len (r : Rt) : (rc r).toList.length = 32 := by rw [Array.length_toList, rc_size]
theorem cc_size (x : Ck) : (cc x).size = 33 := by simp [cc, rc_size]
theorem bc_size (b : Blk) : (bc b).size = 66 := by simp [bc, rc_size]
theorem ac_size (a : At) : (ac a).size = 100 := by simp [ac, rc_size, cc_size]
attribute [go_sem] cc_size bc_size ac_size
theorem cc_len (x : Ck) : (cc x).toList.length = 33 := by rw [Array.length_toList, cc_size]
theorem cc_list (x : Ck) : (cc x).toList = num x.epoch :: (rc x.root).toList := rfl
theorem bc_list (b : Blk) : (bc b).toList = (rc b.root).toList ++ ((rc b.parent).toList ++ [num b.slot, num b.just]) := rfl
theorem ac_list (a : At) : (ac a).toList = .int .i64 a.val :: num a.slot :: ((rc a.head).toList ++ ((cc a.source).toList ++ (cc a.target).toList)) := rfl
theorem num_inj {a b : UInt64} (h : num a = num b) : a = b := by
  simp only [num, Value.int.injEq, true_and] at h
  exact UInt64.toNat_inj.1 (by omega)
theorem all_one {l : List Value} (h : ∀ v ∈ l, v.oneCell' = true) : l.toArray.all (·.oneCell') = true := by
  rw [Array.all_eq_true_iff_forall_mem]
  intro v hv
  exact h v (by simpa using hv)
theorem cc_ones (x : Ck) : ∀ v ∈ (cc x).toList, v.oneCell' = true := by
  intro v hv
  rw [cc_list] at hv
  rcases List.mem_cons.1 hv with rfl | hv
  · rfl
  · exact rc_ones _ v hv
theorem bc_ones (b : Blk) : ∀ v ∈ (bc b).toList, v.oneCell' = true := by
  intro v hv
  rw [bc_list, List.mem_append, List.mem_append] at hv
  rcases hv with hv | hv | hv
  · exact rc_ones _ v hv
  · exact rc_ones _ v hv
  · simp at hv
    rcases hv with rfl | rfl <;> rfl
theorem ac_ones (a : At) : ∀ v ∈ (ac a).toList, v.oneCell' = true := by
  intro v hv
  rw [ac_list] at hv
  simp only [List.mem_cons, List.mem_append] at hv
  rcases hv with rfl | rfl | hv | hv | hv
  · rfl
  · rfl
  · exact rc_ones _ v hv
  · exact cc_ones _ v hv
  · exact cc_ones _ v hv
@[go_sem] theorem okA_cc (x : Ck) : okA 33 (.agg (cc x)) = true := by
  show ((cc x).size == 33 && (cc x).all (·.oneCell')) = true
  rw [show (cc x).all (·.oneCell') = true from all_one (cc_ones x), cc_size]; rfl
@[go_sem] theorem okA_bc (b : Blk) : okA 66 (.agg (bc b)) = true := by
  show ((bc b).size == 66 && (bc b).all (·.oneCell')) = true
  rw [show (bc b).all (·.oneCell') = true from all_one (bc_ones b), bc_size]; rfl
@[go_sem] theorem okA_ac (a : At) : okA 100 (.agg (ac a)) = true := by
  show ((ac a).size == 100 && (ac a).all (·.oneCell')) = true
  rw [show (ac a).all (·.oneCell') = true from all_one (ac_ones a), ac_size]; rfl

/-! ### Load, store, variables -/
@[go_sem ↓] theorem load_check (ρ : Operand → Value) (dst : Option Tmp) (x : Operand) (ty : TypeId) (pos : String) (after : Array Edge) (guard : Option (Nat × Bool)) (w : World) :
    (execOp ρ { dst, op := .load 28 x, type := ty, pos, after, guard }).run Try.prog w = ldOut (ldA w (ρ x) 33) w (opRest Try.prog ρ { dst, op := .load 28 x, type := ty, pos, after, guard } w) :=
  run_load_out Try.isAgg28 Try.sizeOf28 ρ dst x ty pos after guard w
@[go_sem ↓] theorem store_check (ρ : Operand → Value) (dst : Option Tmp) (x y : Operand) (ty : TypeId) (pos : String) (after : Array Edge) (guard : Option (Nat × Bool)) (w : World) :
    (execOp ρ { dst, op := .store 28 x y, type := ty, pos, after, guard }).run Try.prog w = stOut (wrA w (ρ x) 33 && okA 33 (ρ y)) (stA w (ρ x) (ρ y)) (opRest Try.prog ρ { dst, op := .store 28 x y, type := ty, pos, after, guard } w) :=
  run_store_out Try.sizeOf28 ρ dst x y ty pos after guard w
@[go_sem ↓] theorem load_block (ρ : Operand → Value) (dst : Option Tmp) (x : Operand) (ty : TypeId) (pos : String) (after : Array Edge) (guard : Option (Nat × Bool)) (w : World) :
    (execOp ρ { dst, op := .load 26 x, type := ty, pos, after, guard }).run Try.prog w = ldOut (ldA w (ρ x) 66) w (opRest Try.prog ρ { dst, op := .load 26 x, type := ty, pos, after, guard } w) :=
  run_load_out Try.isAgg26 Try.sizeOf26 ρ dst x ty pos after guard w
@[go_sem ↓] theorem store_block (ρ : Operand → Value) (dst : Option Tmp) (x y : Operand) (ty : TypeId) (pos : String) (after : Array Edge) (guard : Option (Nat × Bool)) (w : World) :
    (execOp ρ { dst, op := .store 26 x y, type := ty, pos, after, guard }).run Try.prog w = stOut (wrA w (ρ x) 66 && okA 66 (ρ y)) (stA w (ρ x) (ρ y)) (opRest Try.prog ρ { dst, op := .store 26 x y, type := ty, pos, after, guard } w) :=
  run_store_out Try.sizeOf26 ρ dst x y ty pos after guard w
@[go_sem ↓] theorem load_att (ρ : Operand → Value) (dst : Option Tmp) (x : Operand) (ty : TypeId) (pos : String) (after : Array Edge) (guard : Option (Nat × Bool)) (w : World) :
    (execOp ρ { dst, op := .load 30 x, type := ty, pos, after, guard }).run Try.prog w = ldOut (ldA w (ρ x) 100) w (opRest Try.prog ρ { dst, op := .load 30 x, type := ty, pos, after, guard } w) :=
  run_load_out Try.isAgg30 Try.sizeOf30 ρ dst x ty pos after guard w
@[go_sem ↓] theorem store_att (ρ : Operand → Value) (dst : Option Tmp) (x y : Operand) (ty : TypeId) (pos : String) (after : Array Edge) (guard : Option (Nat × Bool)) (w : World) :
    (execOp ρ { dst, op := .store 30 x y, type := ty, pos, after, guard }).run Try.prog w = stOut (wrA w (ρ x) 100 && okA 100 (ρ y)) (stA w (ρ x) (ρ y)) (opRest Try.prog ρ { dst, op := .store 30 x y, type := ty, pos, after, guard } w) :=
  run_store_out Try.sizeOf30 ρ dst x y ty pos after guard w
theorem zero_check (w : World) : (zeroValue 28).run Try.prog w = .ok (.agg (cc zc)) w := by kernel_rfl
theorem zero_block (w : World) : (zeroValue 26).run Try.prog w = .ok (.agg (bc zb)) w := by kernel_rfl
theorem zero_att (w : World) : (zeroValue 30).run Try.prog w = .ok (.agg (ac za)) w := by kernel_rfl
@[go_sem ↓] theorem alloc_check (ρ : Operand → Value) (dst : Option Tmp) (ty : TypeId) (pos : String) (after : Array Edge) (guard : Option (Nat × Bool)) (w : World) :
    (execOp ρ { dst, op := .alloc 28, type := ty, pos, after, guard }).run Try.prog w = .ok (.value (.pointer (some ⟨w.heap.size, 0, none⟩))) (w.alloc (.cells (cc zc) 28)) := by
  unfold execOp
  simp only [Instr.alloc, Sem.run_bind, zero_check, Result.andThen_ok]
  rfl
@[go_sem ↓] theorem alloc_block (ρ : Operand → Value) (dst : Option Tmp) (ty : TypeId) (pos : String) (after : Array Edge) (guard : Option (Nat × Bool)) (w : World) :
    (execOp ρ { dst, op := .alloc 26, type := ty, pos, after, guard }).run Try.prog w = .ok (.value (.pointer (some ⟨w.heap.size, 0, none⟩))) (w.alloc (.cells (bc zb) 26)) := by
  unfold execOp
  simp only [Instr.alloc, Sem.run_bind, zero_block, Result.andThen_ok]
  rfl
@[go_sem ↓] theorem alloc_att (ρ : Operand → Value) (dst : Option Tmp) (ty : TypeId) (pos : String) (after : Array Edge) (guard : Option (Nat × Bool)) (w : World) :
    (execOp ρ { dst, op := .alloc 30, type := ty, pos, after, guard }).run Try.prog w = .ok (.value (.pointer (some ⟨w.heap.size, 0, none⟩))) (w.alloc (.cells (ac za) 30)) := by
  unfold execOp
  simp only [Instr.alloc, Sem.run_bind, zero_att, Result.andThen_ok]
  rfl

/-! ### Fields laid anew -/
theorem bc_root (b : Blk) (r : Rt) : putSeg (bc b) 0 (rc r) = bc { b with root := r } :=
  putSeg_mid (x := []) (bc_list b) rfl (by rw [rc_len, rc_size])
theorem bc_parent (b : Blk) (r : Rt) : putSeg (bc b) 32 (rc r) = bc { b with parent := r } :=
  putSeg_mid (x := (rc b.root).toList) (bc_list b) (rc_len _) (by rw [rc_len, rc_size])
theorem bc_slot (b : Blk) (n : UInt64) : putSeg (bc b) 64 #[num n] = bc { b with slot := n } := by
  rw [putSeg_mid (c := bc b) (r := #[num n]) (x := (rc b.root).toList ++ (rc b.parent).toList) (y := [num b.slot]) (z := [num b.just]) (by rw [bc_list]; simp) (by rw [List.length_append, rc_len, rc_len]) rfl]
  simp [bc]
theorem bc_just (b : Blk) (n : UInt64) : putSeg (bc b) 65 #[num n] = bc { b with just := n } := by
  rw [putSeg_mid (c := bc b) (r := #[num n]) (x := (rc b.root).toList ++ ((rc b.parent).toList ++ [num b.slot])) (y := [num b.just]) (z := []) (by rw [bc_list]; simp) (by rw [List.length_append, List.length_append, rc_len, rc_len]; rfl) rfl]
  simp [bc]
theorem cc_epoch (x : Ck) (n : UInt64) : putSeg (cc x) 0 #[num n] = cc { x with epoch := n } :=
  putSeg_mid (x := []) (y := [num x.epoch]) (cc_list x) rfl rfl
theorem cc_root (x : Ck) (r : Rt) : putSeg (cc x) 1 (rc r) = cc { x with root := r } := by
  rw [putSeg_mid (c := cc x) (o := 1) (r := rc r) (x := [num x.epoch]) (y := (rc x.root).toList) (z := []) (by rw [cc_list]; simp) rfl (by rw [rc_len, rc_size])]
  simp [cc]
theorem ac_val (a : At) (n : Int) : putSeg (ac a) 0 #[.int .i64 n] = ac { a with val := n } :=
  putSeg_mid (x := []) (y := [.int .i64 a.val]) (ac_list a) rfl rfl
theorem ac_slot (a : At) (n : UInt64) : putSeg (ac a) 1 #[num n] = ac { a with slot := n } :=
  putSeg_mid (x := [.int .i64 a.val]) (y := [num a.slot]) (ac_list a) rfl rfl
theorem ac_head (a : At) (r : Rt) : putSeg (ac a) 2 (rc r) = ac { a with head := r } :=
  putSeg_mid (x := [.int .i64 a.val, num a.slot]) (ac_list a) rfl (by rw [rc_len, rc_size])
theorem ac_source (a : At) (x : Ck) : putSeg (ac a) 34 (cc x) = ac { a with source := x } := by
  rw [putSeg_mid (c := ac a) (x := .int .i64 a.val :: num a.slot :: (rc a.head).toList) (y := (cc a.source).toList) (z := (cc a.target).toList) (by rw [ac_list]; simp) (by simp [rc_size]) (by rw [cc_len, cc_size])]
  simp [ac]
theorem ac_target (a : At) (x : Ck) : putSeg (ac a) 67 (cc x) = ac { a with target := x } := by
  rw [putSeg_mid (c := ac a) (x := .int .i64 a.val :: num a.slot :: ((rc a.head).toList ++ (cc a.source).toList)) (y := (cc a.target).toList) (z := []) (by rw [ac_list]; simp) (by simp [rc_size, cc_size]) (by rw [cc_len, cc_size])]
  simp [ac]

/-! ### What a block of memory holds -/
section
variable {w : World} {g : Nat} {t : TypeId} {fr : Nat × Nat}
theorem blk_root {b : Blk} (hg : w.heap[g]? = some (.cells (bc b) t fr)) : SlB w (.slice (some ⟨g, 0, none⟩) 32 32) b.root.toList := slB_mid (x := []) hg (bc_list b) rfl
theorem blk_parent {b : Blk} (hg : w.heap[g]? = some (.cells (bc b) t fr)) : SlB w (.slice (some ⟨g, 32, none⟩) 32 32) b.parent.toList := slB_mid hg (bc_list b) (rc_len _)
theorem blk_slot {b : Blk} (hg : w.heap[g]? = some (.cells (bc b) t fr)) : w.cell? ⟨g, 64, none⟩ = some (num b.slot) :=
  cell_at (x := (rc b.root).toList ++ (rc b.parent).toList) hg (by rw [bc_list]; simp; rfl) (by rw [List.length_append, rc_len, rc_len])
theorem blk_just {b : Blk} (hg : w.heap[g]? = some (.cells (bc b) t fr)) : w.cell? ⟨g, 65, none⟩ = some (num b.just) :=
  cell_at (x := (rc b.root).toList ++ ((rc b.parent).toList ++ [num b.slot])) (z := []) hg (by rw [bc_list]; simp) (by rw [List.length_append, List.length_append, rc_len, rc_len]; rfl)
theorem blk_ldroot {b : Blk} (hg : w.heap[g]? = some (.cells (bc b) t fr)) : ldA w (.pointer (some ⟨g, 0, none⟩)) 32 = some (rc b.root) := ldA_mid (x := []) hg (bc_list b) rfl (rc_size _)
theorem blk_ldparent {b : Blk} (hg : w.heap[g]? = some (.cells (bc b) t fr)) : ldA w (.pointer (some ⟨g, 32, none⟩)) 32 = some (rc b.parent) := ldA_mid hg (bc_list b) (rc_len _) (rc_size _)
theorem ck_epoch {x : Ck} (hg : w.heap[g]? = some (.cells (cc x) t fr)) : w.cell? ⟨g, 0, none⟩ = some (num x.epoch) := cell_at (x := []) hg (cc_list x) rfl
theorem ck_root {x : Ck} (hg : w.heap[g]? = some (.cells (cc x) t fr)) : SlB w (.slice (some ⟨g, 1, none⟩) 32 32) x.root.toList := slB_mid (x := [num x.epoch]) (z := []) hg (by rw [cc_list]; simp) rfl
theorem att_val {a : At} (hg : w.heap[g]? = some (.cells (ac a) t fr)) : w.cell? ⟨g, 0, none⟩ = some (.int .i64 a.val) := cell_at (x := []) hg (ac_list a) rfl
theorem att_slot {a : At} (hg : w.heap[g]? = some (.cells (ac a) t fr)) : w.cell? ⟨g, 1, none⟩ = some (num a.slot) := cell_at (x := [.int .i64 a.val]) hg (ac_list a) rfl
theorem att_head {a : At} (hg : w.heap[g]? = some (.cells (ac a) t fr)) : SlB w (.slice (some ⟨g, 2, none⟩) 32 32) a.head.toList := slB_mid (x := [.int .i64 a.val, num a.slot]) hg (ac_list a) rfl
theorem att_ldhead {a : At} (hg : w.heap[g]? = some (.cells (ac a) t fr)) : ldA w (.pointer (some ⟨g, 2, none⟩)) 32 = some (rc a.head) := ldA_mid (x := [.int .i64 a.val, num a.slot]) hg (ac_list a) rfl (rc_size _)
theorem att_source {a : At} (hg : w.heap[g]? = some (.cells (ac a) t fr)) : ldA w (.pointer (some ⟨g, 34, none⟩)) 33 = some (cc a.source) :=
  ldA_mid (x := .int .i64 a.val :: num a.slot :: (rc a.head).toList) hg (by rw [ac_list]; simp; rfl) (by simp [rc_size]) (cc_size _)
theorem att_target {a : At} (hg : w.heap[g]? = some (.cells (ac a) t fr)) : ldA w (.pointer (some ⟨g, 67, none⟩)) 33 = some (cc a.target) :=
  ldA_mid (x := .int .i64 a.val :: num a.slot :: ((rc a.head).toList ++ (cc a.source).toList)) (z := []) hg (by rw [ac_list]; simp) (by simp [rc_size, cc_size]) (cc_size _)
theorem att_sepoch {a : At} (hg : w.heap[g]? = some (.cells (ac a) t fr)) : w.cell? ⟨g, 34, none⟩ = some (num a.source.epoch) :=
  cell_at (x := .int .i64 a.val :: num a.slot :: (rc a.head).toList) hg (by rw [ac_list, cc_list]; simp; rfl) (by simp [rc_size])
theorem att_sroot {a : At} (hg : w.heap[g]? = some (.cells (ac a) t fr)) : ldA w (.pointer (some ⟨g, 35, none⟩)) 32 = some (rc a.source.root) :=
  ldA_mid (x := .int .i64 a.val :: num a.slot :: ((rc a.head).toList ++ [num a.source.epoch])) hg (by rw [ac_list, cc_list]; simp; rfl) (by simp [rc_size]) (rc_size _)
theorem att_tepoch {a : At} (hg : w.heap[g]? = some (.cells (ac a) t fr)) : w.cell? ⟨g, 67, none⟩ = some (num a.target.epoch) :=
  cell_at (x := .int .i64 a.val :: num a.slot :: ((rc a.head).toList ++ (cc a.source).toList)) hg (by rw [ac_list, cc_list a.target]; simp; rfl) (by simp [rc_size, cc_size])
theorem att_troot {a : At} (hg : w.heap[g]? = some (.cells (ac a) t fr)) : ldA w (.pointer (some ⟨g, 68, none⟩)) 32 = some (rc a.target.root) :=
  ldA_mid (x := .int .i64 a.val :: num a.slot :: ((rc a.head).toList ++ ((cc a.source).toList ++ [num a.target.epoch]))) (z := []) hg (by rw [ac_list, cc_list a.target]; simp) (by simp [rc_size, cc_size]) (rc_size _)
end
attribute [irreducible] bc ac cc
end Go.Proofs.Ytjdpndclgmdahaa
