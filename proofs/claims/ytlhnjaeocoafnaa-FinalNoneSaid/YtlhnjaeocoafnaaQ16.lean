/-
  api.Tree: its plain data, its cells, loads, stores, literals, ==, its parts in memory, an argument; in any translation that has it. (written by wip/mkstruct.py)
  Trees in memory.
  The tree, what is final, an empty answer, and the best one so far, in variables. (written by wip/gen/ref16.py)
-/
import Derived.Test.YtlhnjaeocoafnaaQ07
import Derived.Test.YtlhnjaeocoafnaaQ12
import Derived.Test.YtlhnjaeocoafnaaQ15
import Derived.Test.YtlhnjaeocoafnaaQ04
import Derived.Test.YtlhnjaeocoafnaaQ14
namespace Go.Proofs.Ytlhnjaeocoafnaa
open Go.RowKit
set_option maxRecDepth 100000

structure Tr where
  n : SlV
theorem Tr.ext {x y : Tr} (h0 : x.n = y.n) : x = y := by cases x; cases y; simp_all
def trL (x : Tr) : List Value := [sv x.n]
def tr (x : Tr) : Array Value := (trL x).toArray
theorem tr_list (x : Tr) : (tr x).toList = trL x := rfl
theorem tr_len (x : Tr) : (trL x).length = 1 := by simp [trL]
theorem tr_size (x : Tr) : (tr x).size = 1 := by rw [← Array.length_toList, tr_list, tr_len]
theorem tr_one (x : Tr) : ∀ v ∈ trL x, v.oneCell' = true := by
  intro v hv
  unfold trL at hv
  simp only [List.mem_singleton] at hv
  rcases hv with rfl
  · rfl
@[go_sem] theorem okA_tr (x : Tr) : okA 1 (.agg (tr x)) = true := by
  show ((tr x).size == 1 && (tr x).all (·.oneCell')) = true
  rw [show (tr x).all (·.oneCell') = true from all_one (tr_one x), tr_size]; rfl
def ztr : Tr := ⟨⟨none, 0, 0⟩⟩
theorem zero_tr (w : World) : (zeroValue 24).run Try.prog w = .ok (.agg (tr ztr)) w := by kernel_rfl
@[go_sem ↓] theorem load_tr (ρ : Operand → Value) (dst : Option Tmp) (x : Operand) (ty : TypeId) (pos : String) (after : Array Edge) (guard : Option (Nat × Bool)) (w : World) :
    (execOp ρ { dst, op := .load 24 x, type := ty, pos, after, guard }).run Try.prog w = ldOut (ldA w (ρ x) 1) w (opRest Try.prog ρ { dst, op := .load 24 x, type := ty, pos, after, guard } w) :=
  run_load_out Try.isAgg24 Try.sizeOf24 ρ dst x ty pos after guard w
@[go_sem ↓] theorem store_tr (ρ : Operand → Value) (dst : Option Tmp) (x y : Operand) (ty : TypeId) (pos : String) (after : Array Edge) (guard : Option (Nat × Bool)) (w : World) :
    (execOp ρ { dst, op := .store 24 x y, type := ty, pos, after, guard }).run Try.prog w = stOut (wrA w (ρ x) 1 && okA 1 (ρ y)) (stA w (ρ x) (ρ y)) (opRest Try.prog ρ { dst, op := .store 24 x y, type := ty, pos, after, guard } w) :=
  run_store_out Try.sizeOf24 ρ dst x y ty pos after guard w
@[go_sem ↓] theorem alloc_tr (ρ : Operand → Value) (dst : Option Tmp) (ty : TypeId) (pos : String) (after : Array Edge) (guard : Option (Nat × Bool)) (w : World) :
    (execOp ρ { dst, op := .alloc 24, type := ty, pos, after, guard }).run Try.prog w = .ok (.value (.pointer (some ⟨w.heap.size, 0, none⟩))) (w.alloc (.cells (tr ztr) 24)) := by
  unfold execOp
  simp only [Instr.alloc, Sem.run_bind, zero_tr, Result.andThen_ok]
  rfl
def places_tr : List (Nat × Nat) := [(0, 1)]
theorem fields_tr : ∀ w : World, ((Try.prog.fieldsOf 24).mapM (m := Sem) fun f => do pure (f.offset, ← Go.sizeOf f.type)).run Try.prog w = .ok places_tr.toArray w := fun _ => by kernel_rfl
theorem under_tr : Try.prog.underlying 24 = some (.struct (Try.prog.fieldsOf 24)) := by kernel_rfl
theorem flds_tr : (Try.prog.fieldsOf 24).toList.map (fun f => (f.name, f.type, f.offset)) = [("N", 22, 0)] := by kernel_rfl
@[go_sem ↓] theorem build_tr (ρ : Operand → Value) (dst : Option Tmp) (p : Nat × Operand) (ps : List (Nat × Operand)) (ty : TypeId) (pos : String) (after : Array Edge) (guard : Option (Nat × Bool)) (w : World) :
    (execOp ρ { dst, op := .build 24 (p :: ps).toArray, type := ty, pos, after, guard }).run Try.prog w = vOutE ((fillA places_tr (tr ztr) ((p.1, ρ p.2) :: ps.map fun p => (p.1, ρ p.2))).map .agg) w (opRest Try.prog ρ { dst, op := .build 24 (p :: ps).toArray, type := ty, pos, after, guard } w) :=
  build_out zero_tr under_tr fields_tr ρ dst (p :: ps).toArray ty pos after guard w
@[go_sem ↓] theorem build0_tr (ρ : Operand → Value) (dst : Option Tmp) (ty : TypeId) (pos : String) (after : Array Edge) (guard : Option (Nat × Bool)) (w : World) :
    (execOp ρ { dst, op := .build 24 #[], type := ty, pos, after, guard }).run Try.prog w = .ok (.value (.agg (tr ztr))) w :=
  build_out zero_tr under_tr fields_tr ρ dst #[] ty pos after guard w
attribute [go_sem] places_tr tr_size
theorem tr_at_n (x : Tr) : trL x = ([]) ++ ([sv x.n] ++ ([])) ∧ ([] : List Value).length = 0 := by
  constructor
  · unfold trL; simp
  · rfl
theorem tr_get_n (x : Tr) : (tr x)[0]? = some (sv x.n) := get_at (tr_at_n x).1 (tr_at_n x).2
@[go_sem] theorem tr_gi_n (x : Tr) (h : 0 < (tr x).size) : (tr x)[0]'h = sv x.n := by have := tr_get_n x; rw [Array.getElem?_eq_getElem h] at this; exact Option.some.inj this
theorem tr_rd_n {w : World} {b off : Nat} {x : Tr} (h : w.rangeAt b off (trL x)) : w.cell? ⟨b, off + 0, none⟩ = some (sv x.n) := range_one h (tr_at_n x).1 (tr_at_n x).2
theorem tr_rd0_n {w : World} {g : Nat} {t : TypeId} {fr : Nat × Nat} {x : Tr} (h : w.heap[g]? = some (.cells (tr x) t fr)) : w.cell? ⟨g, 0, none⟩ = some (sv x.n) := by have := tr_rd_n (x := x) (range_block h); rwa [Nat.zero_add] at this
theorem tr_put_n (x : Tr) (y : SlV) : putSeg (tr x) 0 #[sv y] = tr { x with n := y } := by
  rw [putSeg_mid (c := tr x) (r := #[sv y]) (tr_at_n x).1 (tr_at_n x).2 rfl]
  simp [tr, trL]
@[go_sem] theorem tr_set_n (x : Tr) (y : SlV) : (tr x).setIfInBounds 0 (sv y) = tr { x with n := y } := by
  rw [setIfInBounds_seg (by rw [tr_size]; decide)]; exact tr_put_n x y
@[go_sem] theorem tr_sets_n (x : Tr) (p : Option Addr) (k c : Nat) : (tr x).setIfInBounds 0 (.slice p k c) = tr { x with n := ⟨p, k, c⟩ } := by
  rw [setIfInBounds_seg (by rw [tr_size]; decide)]; exact tr_put_n x ⟨p, k, c⟩
attribute [go_sem] tr_put_n
@[go_sem] theorem tr_puts_n (x : Tr) (p : Option Addr) (k c : Nat) : putSeg (tr x) 0 #[.slice p k c] = tr { x with n := ⟨p, k, c⟩ } := tr_put_n x ⟨p, k, c⟩
theorem cellsOf_tr : Try.prog.cellsOf 24 = 1 := by kernel_rfl
section
open Go.WideShapes Go.ChangeShapes
variable {H : Type} {enc : TypeId × Value → H} {w : World} {base : Nat} {sp : Nat → Bool} {held : Bool}
set_option maxRecDepth 100000 in
theorem cells_tr {fuel : Nat} {cs : List Value} {x : DataW H × List MemPlace} (hl : cs.length = 1) (h : DataW.trod enc Try.prog w base sp held fuel 24 cs = some x) : ∃ a : Tr, cs = trL a ∧ (∃ l, SlE Ene w (sv a.n) l) := by
  obtain ⟨_, _, h0⟩ := trod_field (i := 0) under_tr flds_tr rfl h
  rw [show Try.prog.cellsOf 22 = 1 from by kernel_rfl] at h0
  obtain ⟨a0, e0, k0⟩ := cells_nes h0
  refine ⟨⟨a0⟩, ?_, k0⟩
  unfold trL
  have j0 := seg_join cs 0 1
  rw [e0] at j0
  have jl : cs.drop 1 = [] := List.drop_of_length_le (by omega)
  rw [show (0 + 1) = 1 from rfl, jl, List.append_nil] at j0
  rw [← List.drop_zero (l := cs)]
  rw [← j0]
  try rfl
set_option maxRecDepth 100000 in
theorem open_tr {r : Reach} {b0 : Nat} {v : Value} {d : DataW H} {ps : List MemPlace} (hval : Value.okWide Try.prog w r b0 24 v) (hd : DataW.Trod enc Try.prog w base sp held 24 v d ps) : ∃ a : Tr, v = .agg (tr a) ∧ (∃ l, SlE Ene w (sv a.n) l) := by
  obtain ⟨xs, rfl, hn⟩ := okWide_struct under_tr hval
  rw [cellsOf_tr] at hn
  obtain ⟨fuel, hf⟩ := hd
  obtain ⟨a, ha, k0⟩ := cells_tr (cs := xs.toList) (by rw [Array.length_toList, hn]) hf
  exact ⟨a, by rw [show xs = tr a from Array.toList_inj.1 ha], k0⟩
end
def Etr : Lie Tr := ⟨24, 1, trL, by decide, tr_len, tr_one⟩
attribute [irreducible] tr
end Go.Proofs.Ytlhnjaeocoafnaa
namespace Go.Proofs.Ytlhnjaeocoafnaa
open Go.RowKit
set_option maxRecDepth 100000

theorem sv_lenN {w : World} {s : SlV} {l : List Nd} (h : SlE Ene w (sv s) l) : l.length = s.len := by
  obtain ⟨p', cap', e, _⟩ := slE_shape h
  unfold sv at e; injection e with _ e; exact e.symm
/-- A node, and its parts, in a slice. -/
theorem nds_ld {w : World} {b off : Nat} {l : List Nd} (h : w.rangeAt b off (cellsE Ene l)) {i : Nat} (hi : i < l.length) : ldA w (.pointer (some ⟨b, off + i * 35, none⟩)) 35 = some (ne (nd l i)) := by
  have := ldA_at h hi
  rw [nd_in l hi]
  exact this.trans (by rw [show (Ene.enc l[i]).toArray = ne l[i] from Array.toList_inj.1 (by rw [ne_list]; rfl)])
theorem nds_root {w : World} {b off : Nat} {l : List Nd} (h : w.rangeAt b off (cellsE Ene l)) {i : Nat} (hi : i < l.length) : ldA w (.pointer (some ⟨b, off + i * 35, none⟩)) 32 = some (rc (nd l i).root) := by
  have := ne_rd_root (range_at h hi)
  rw [nd_in l hi]
  exact this
theorem nds_par {w : World} {b off : Nat} {l : List Nd} (h : w.rangeAt b off (cellsE Ene l)) {i : Nat} (hi : i < l.length) : w.cell? ⟨b, off + i * 35 + 32, none⟩ = some (.int .i64 (nd l i).parent) := by
  have := ne_rd_parent (range_at h hi)
  rw [nd_in l hi]
  exact this
theorem nds_slot {w : World} {b off : Nat} {l : List Nd} (h : w.rangeAt b off (cellsE Ene l)) {i : Nat} (hi : i < l.length) : w.cell? ⟨b, off + i * 35 + 33, none⟩ = some (.int .u64 ((nd l i).slot.toNat : Int)) := by
  have := ne_rd_slot (range_at h hi)
  rw [nd_in l hi]
  exact this
theorem ne_cells {w : World} {g : Nat} {x : Nd} (h : w.heap[g]? = some (.cells (ne x) 73 (0, 0))) : ldA w (.pointer (some ⟨g, 0, none⟩)) 32 = some (rc x.root) ∧ w.cell? ⟨g, 32, none⟩ = some (.int .i64 x.parent) ∧ w.cell? ⟨g, 33, none⟩ = some (.int .u64 (x.slot.toNat : Int)) ∧ w.cell? ⟨g, 34, none⟩ = some (.int .u64 (x.just.toNat : Int)) ∧ ldA w (.pointer (some ⟨g, 0, none⟩)) 35 = some (ne x) ∧ g < w.heap.size :=
  ⟨ne_rd0_root h, ne_rd0_parent h, ne_rd0_slot h, ne_rd0_just h, ldA_block h (ne_size x), (Array.getElem?_eq_some_iff.1 h).1⟩
theorem tr_cells {w : World} {g : Nat} {x : Tr} (h : w.heap[g]? = some (.cells (tr x) 24 (0, 0))) : w.cell? ⟨g, 0, none⟩ = some (sv x.n) ∧ ldA w (.pointer (some ⟨g, 0, none⟩)) 1 = some (tr x) ∧ g < w.heap.size :=
  ⟨tr_rd0_n h, ldA_block h (tr_size x), (Array.getElem?_eq_some_iff.1 h).1⟩

theorem nd_ext {l k : List Nd} (hl : l.length = k.length) (h : ∀ i, i < k.length → nd l i = nd k i) : l = k := by
  refine List.ext_getElem hl fun i h1 h2 => ?_
  have := h i h2
  rwa [nd_in l h1, nd_in k h2] at this
theorem above_stop {l : List Nd} (h : MayT l) {i m : Nat} (hm : m < l.length) (hi : ¬ i < m) : aboveT l i m = decide (m = i) := by
  by_cases h0 : m = 0
  · subst h0
    rw [above_zero, Bool.eq_iff_iff, decide_eq_true_iff, decide_eq_true_iff]
    omega
  · rw [above_up h i (Nat.pos_of_ne_zero h0) hm, if_neg hi]
theorem slE_ptr {w : World} {p : Option Addr} {n cp : Nat} {l : List Nd} (h : SlE Ene w (.slice p n cp) l) (h0 : 0 < l.length) : ∃ b o, p = some ⟨b, o, none⟩ ∧ b < w.heap.size ∧ w.rangeAt b o (cellsE Ene l) := by
  obtain ⟨b, o, c, e, _, q, x⟩ := slE_ne h h0
  injection e with e1 e2 e3
  exact ⟨b, o, e1, q, x⟩
/-- A variable's block, read behind calls. -/
theorem wd_tr {w : World} {g : Nat} {x : Tr} (h : w.heap[g]? = some (.cells (tr x) 24 (0, 0))) (p : Wd w.drew) : ldA p.w (.pointer (some ⟨g, 0, none⟩)) 1 = some (tr x) := ldA_wd (show ldA w.drew _ 1 = _ by rw [ldA_drew]; exact ldA_block h (tr_size _)) (by decide) p
end Go.Proofs.Ytlhnjaeocoafnaa
namespace Go.Proofs.Ytlhnjaeocoafnaa
open Go.RowKit
set_option maxRecDepth 100000

structure Bv (w W : World) (s : SlV) (fin : Ck) (R : Nat) (o : Ck) : Prop where
  t : W.heap[w.heap.size]? = some (.cells (tr ⟨s⟩) 24 (0, 0))
  f : W.heap[w.heap.size + 1]? = some (.cells (cc fin) 32 (0, 0))
  r : W.heap[w.heap.size + 2]? = some (.cells (cc zcc) 32 (0, 0))
  o : W.heap[R]? = some (.cells (cc o) 32 (0, 0))
  g : Below w.heap.size w W
  R : w.heap.size + 3 ≤ R
section
variable {w W W' : World} {s : SlV} {fin o : Ck} {R : Nat}
theorem Bv.keep (h : Bv w W s fin R o) (g : Below W.heap.size W W') : Bv w W' s fin R o := ⟨blk_keep g h.t, blk_keep g h.f, blk_keep g h.r, blk_keep g h.o, belowT h.g g, h.R⟩
theorem Bv.put (h : Bv w W s fin R o) (c : Ck) : Bv w (stA W (.pointer (some ⟨R, 0, none⟩)) (.agg (cc c))) s fin R c :=
  have := h.R
  ⟨(heap_stA (by omega)).trans h.t, (heap_stA (by omega)).trans h.f, (heap_stA (by omega)).trans h.r, heap_putC h.o, below_stA h.g (by omega), h.R⟩
theorem bv_new {W3 : World} (hB : Below w.heap.size w W3) (k0 : W3.heap[w.heap.size]? = some (.cells (tr ⟨s⟩) 24 (0, 0))) (k1 : W3.heap[w.heap.size + 1]? = some (.cells (cc fin) 32 (0, 0))) (k2 : W3.heap[w.heap.size + 2]? = some (.cells (cc zcc) 32 (0, 0))) : Bv w (W3.alloc (.cells (cc fin) 32)) s fin W3.heap.size fin := by
  have := (Array.getElem?_eq_some_iff.1 k2).1
  exact ⟨blk_keep below1 k0, blk_keep below1 k1, blk_keep below1 k2, heap_alloc_last W3 _, belowT hB below1, by omega⟩
end
theorem best_step {ok : Ck → Bool} {js : List Ck} {j : Nat} (hj : j < js.length) (o : Ck) : bestC lessR ok (js.drop j) o = bestC lessR ok (js.drop (j + 1)) (if (ok (ckAt js j) && betC lessR o (ckAt js j)) = true then ckAt js j else o) := by
  rw [List.drop_eq_getElem_cons hj, ckAt_in hj]; rfl
end Go.Proofs.Ytlhnjaeocoafnaa
