/-
  api.Tree: its plain data, its cells, loads, stores, literals, ==, its parts in memory, an argument; in any translation that has it. (written by wip/mkstruct.py)
-/
import Derived.Test.YtonfmddjlhgglaaPr
import Derived.Test.YtonfmddjlhgglaaSv
import Derived.Test.YtonfmddjlhgglaaNdS
namespace Go.Proofs.Ytonfmddjlhgglaa
open Go.RowKit

structure Tr where
  n : SlV
theorem Tr.ext {x y : Tr} (h0 : x.n = y.n) : x = y := by cases x; cases y; simp_all
def trL (x : Tr) : List Value := [sv x.n]
def tr (x : Tr) : Array Value := (trL x).toArray
theorem tr_list (x : Tr) : (tr x).toList = trL x := rfl
theorem tr_len (x : Tr) : (trL x).length = 1 := by simp [trL]
theorem tr_size (x : Tr) : (tr x).size = 1 := by rw [← Array.length_toList, tr_list, tr_len]
theorem tr_one (x : Tr) : ∀ v ∈ trL x, v.oneCell' = true := by
  intro v hv
  unfold trL at hv
  simp only [List.mem_singleton] at hv
  rcases hv with rfl
  · rfl
@[go_sem] theorem okA_tr (x : Tr) : okA 1 (.agg (tr x)) = true := by
  show ((tr x).size == 1 && (tr x).all (·.oneCell')) = true
  rw [show (tr x).all (·.oneCell') = true from all_one (tr_one x), tr_size]; rfl
def ztr : Tr := ⟨⟨none, 0, 0⟩⟩
theorem zero_tr (w : World) : (zeroValue 24).run Try.prog w = .ok (.agg (tr ztr)) w := by kernel_rfl
@[go_sem ↓] theorem load_tr (ρ : Operand → Value) (dst : Option Tmp) (x : Operand) (ty : TypeId) (pos : String) (after : Array Edge) (guard : Option (Nat × Bool)) (w : World) :
    (execOp ρ { dst, op := .load 24 x, type := ty, pos, after, guard }).run Try.prog w = ldOut (ldA w (ρ x) 1) w (opRest Try.prog ρ { dst, op := .load 24 x, type := ty, pos, after, guard } w) :=
  run_load_out Try.isAgg24 Try.sizeOf24 ρ dst x ty pos after guard w
@[go_sem ↓] theorem store_tr (ρ : Operand → Value) (dst : Option Tmp) (x y : Operand) (ty : TypeId) (pos : String) (after : Array Edge) (guard : Option (Nat × Bool)) (w : World) :
    (execOp ρ { dst, op := .store 24 x y, type := ty, pos, after, guard }).run Try.prog w = stOut (wrA w (ρ x) 1 && okA 1 (ρ y)) (stA w (ρ x) (ρ y)) (opRest Try.prog ρ { dst, op := .store 24 x y, type := ty, pos, after, guard } w) :=
  run_store_out Try.sizeOf24 ρ dst x y ty pos after guard w
@[go_sem ↓] theorem alloc_tr (ρ : Operand → Value) (dst : Option Tmp) (ty : TypeId) (pos : String) (after : Array Edge) (guard : Option (Nat × Bool)) (w : World) :
    (execOp ρ { dst, op := .alloc 24, type := ty, pos, after, guard }).run Try.prog w = .ok (.value (.pointer (some ⟨w.heap.size, 0, none⟩))) (w.alloc (.cells (tr ztr) 24)) := by
  unfold execOp
  simp only [Instr.alloc, Sem.run_bind, zero_tr, Result.andThen_ok]
  rfl
def places_tr : List (Nat × Nat) := [(0, 1)]
theorem fields_tr : ∀ w : World, ((Try.prog.fieldsOf 24).mapM (m := Sem) fun f => do pure (f.offset, ← Go.sizeOf f.type)).run Try.prog w = .ok places_tr.toArray w := fun _ => by kernel_rfl
theorem under_tr : Try.prog.underlying 24 = some (.struct (Try.prog.fieldsOf 24)) := by kernel_rfl
theorem flds_tr : (Try.prog.fieldsOf 24).toList.map (fun f => (f.name, f.type, f.offset)) = [("N", 22, 0)] := by kernel_rfl
@[go_sem ↓] theorem build_tr (ρ : Operand → Value) (dst : Option Tmp) (p : Nat × Operand) (ps : List (Nat × Operand)) (ty : TypeId) (pos : String) (after : Array Edge) (guard : Option (Nat × Bool)) (w : World) :
    (execOp ρ { dst, op := .build 24 (p :: ps).toArray, type := ty, pos, after, guard }).run Try.prog w = vOutE ((fillA places_tr (tr ztr) ((p.1, ρ p.2) :: ps.map fun p => (p.1, ρ p.2))).map .agg) w (opRest Try.prog ρ { dst, op := .build 24 (p :: ps).toArray, type := ty, pos, after, guard } w) :=
  build_out zero_tr under_tr fields_tr ρ dst (p :: ps).toArray ty pos after guard w
@[go_sem ↓] theorem build0_tr (ρ : Operand → Value) (dst : Option Tmp) (ty : TypeId) (pos : String) (after : Array Edge) (guard : Option (Nat × Bool)) (w : World) :
    (execOp ρ { dst, op := .build 24 #[], type := ty, pos, after, guard }).run Try.prog w = .ok (.value (.agg (tr ztr))) w :=
  build_out zero_tr under_tr fields_tr ρ dst #[] ty pos after guard w
attribute [go_sem] places_tr tr_size
theorem tr_at_n (x : Tr) : trL x = ([]) ++ ([sv x.n] ++ ([])) ∧ ([] : List Value).length = 0 := by
  constructor
  · unfold trL; simp
  · rfl
theorem tr_get_n (x : Tr) : (tr x)[0]? = some (sv x.n) := get_at (tr_at_n x).1 (tr_at_n x).2
@[go_sem] theorem tr_gi_n (x : Tr) (h : 0 < (tr x).size) : (tr x)[0]'h = sv x.n := by have := tr_get_n x; rw [Array.getElem?_eq_getElem h] at this; exact Option.some.inj this
theorem tr_rd_n {w : World} {b off : Nat} {x : Tr} (h : w.rangeAt b off (trL x)) : w.cell? ⟨b, off + 0, none⟩ = some (sv x.n) := range_one h (tr_at_n x).1 (tr_at_n x).2
theorem tr_rd0_n {w : World} {g : Nat} {t : TypeId} {fr : Nat × Nat} {x : Tr} (h : w.heap[g]? = some (.cells (tr x) t fr)) : w.cell? ⟨g, 0, none⟩ = some (sv x.n) := by have := tr_rd_n (x := x) (range_block h); rwa [Nat.zero_add] at this
theorem tr_put_n (x : Tr) (y : SlV) : putSeg (tr x) 0 #[sv y] = tr { x with n := y } := by
  rw [putSeg_mid (c := tr x) (r := #[sv y]) (tr_at_n x).1 (tr_at_n x).2 rfl]
  simp [tr, trL]
@[go_sem] theorem tr_set_n (x : Tr) (y : SlV) : (tr x).setIfInBounds 0 (sv y) = tr { x with n := y } := by
  rw [setIfInBounds_seg (by rw [tr_size]; decide)]; exact tr_put_n x y
@[go_sem] theorem tr_sets_n (x : Tr) (p : Option Addr) (k c : Nat) : (tr x).setIfInBounds 0 (.slice p k c) = tr { x with n := ⟨p, k, c⟩ } := by
  rw [setIfInBounds_seg (by rw [tr_size]; decide)]; exact tr_put_n x ⟨p, k, c⟩
attribute [go_sem] tr_put_n
@[go_sem] theorem tr_puts_n (x : Tr) (p : Option Addr) (k c : Nat) : putSeg (tr x) 0 #[.slice p k c] = tr { x with n := ⟨p, k, c⟩ } := tr_put_n x ⟨p, k, c⟩
theorem cellsOf_tr : Try.prog.cellsOf 24 = 1 := by kernel_rfl
section
open Go.WideShapes Go.ChangeShapes
variable {H : Type} {enc : TypeId × Value → H} {w : World} {base : Nat} {sp : Nat → Bool} {held : Bool}
theorem cells_tr {fuel : Nat} {cs : List Value} {x : DataW H × List MemPlace} (hl : cs.length = 1) (h : DataW.trod enc Try.prog w base sp held fuel 24 cs = some x) : ∃ a : Tr, cs = trL a ∧ (∃ l, SlE Ene w (sv a.n) l) := by
  obtain ⟨_, _, h0⟩ := trod_field (i := 0) under_tr flds_tr rfl h
  rw [show Try.prog.cellsOf 22 = 1 from by kernel_rfl] at h0
  obtain ⟨a0, e0, k0⟩ := cells_nes h0
  refine ⟨⟨a0⟩, ?_, k0⟩
  unfold trL
  have j0 := seg_join cs 0 1
  rw [e0] at j0
  have jl : cs.drop 1 = [] := List.drop_of_length_le (by omega)
  rw [show (0 + 1) = 1 from rfl, jl, List.append_nil] at j0
  rw [← List.drop_zero (l := cs)]
  rw [← j0]
  try rfl
theorem open_tr {r : Reach} {b0 : Nat} {v : Value} {d : DataW H} {ps : List MemPlace} (hval : Value.okWide Try.prog w r b0 24 v) (hd : DataW.Trod enc Try.prog w base sp held 24 v d ps) : ∃ a : Tr, v = .agg (tr a) ∧ (∃ l, SlE Ene w (sv a.n) l) := by
  obtain ⟨xs, rfl, hn⟩ := okWide_struct under_tr hval
  rw [cellsOf_tr] at hn
  obtain ⟨fuel, hf⟩ := hd
  obtain ⟨a, ha, k0⟩ := cells_tr (cs := xs.toList) (by rw [Array.length_toList, hn]) hf
  exact ⟨a, by rw [show xs = tr a from Array.toList_inj.1 ha], k0⟩
end
def Etr : Lie Tr := ⟨24, 1, trL, by decide, tr_len, tr_one⟩
attribute [irreducible] tr
end Go.Proofs.Ytonfmddjlhgglaa
