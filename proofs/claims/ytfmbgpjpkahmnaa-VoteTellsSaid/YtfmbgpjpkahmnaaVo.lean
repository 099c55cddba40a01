/-
  api.Votes: its plain data, its cells, loads, stores, literals, ==, its parts in memory, an argument; in any translation that has it. (written by wip/mkstruct.py)
-/
import Derived.Test.YtfmbgpjpkahmnaaPr
import Derived.Test.YtfmbgpjpkahmnaaSv
import Derived.Test.YtfmbgpjpkahmnaaLtS
namespace Go.Proofs.Ytfmbgpjpkahmnaa
open Go.RowKit

structure Vo where
  l : SlV
  out : UInt64
theorem Vo.ext {x y : Vo} (h0 : x.l = y.l) (h1 : x.out = y.out) : x = y := by cases x; cases y; simp_all
def voL (x : Vo) : List Value := [sv x.l] ++ ([num x.out])
def vo (x : Vo) : Array Value := (voL x).toArray
theorem vo_list (x : Vo) : (vo x).toList = voL x := rfl
theorem vo_len (x : Vo) : (voL x).length = 2 := by simp [voL]
theorem vo_size (x : Vo) : (vo x).size = 2 := by rw [← Array.length_toList, vo_list, vo_len]
theorem vo_one (x : Vo) : ∀ v ∈ voL x, v.oneCell' = true := by
  intro v hv
  unfold voL at hv
  simp only [List.mem_append, List.mem_singleton] at hv
  rcases hv with rfl | rfl
  · rfl
  · rfl
@[go_sem] theorem okA_vo (x : Vo) : okA 2 (.agg (vo x)) = true := by
  show ((vo x).size == 2 && (vo x).all (·.oneCell')) = true
  rw [show (vo x).all (·.oneCell') = true from all_one (vo_one x), vo_size]; rfl
def zvo : Vo := ⟨⟨none, 0, 0⟩, 0⟩
theorem zero_vo (w : World) : (zeroValue 25).run Try.prog w = .ok (.agg (vo zvo)) w := by kernel_rfl
@[go_sem ↓] theorem load_vo (ρ : Operand → Value) (dst : Option Tmp) (x : Operand) (ty : TypeId) (pos : String) (after : Array Edge) (guard : Option (Nat × Bool)) (w : World) :
    (execOp ρ { dst, op := .load 25 x, type := ty, pos, after, guard }).run Try.prog w = ldOut (ldA w (ρ x) 2) w (opRest Try.prog ρ { dst, op := .load 25 x, type := ty, pos, after, guard } w) :=
  run_load_out Try.isAgg25 Try.sizeOf25 ρ dst x ty pos after guard w
@[go_sem ↓] theorem store_vo (ρ : Operand → Value) (dst : Option Tmp) (x y : Operand) (ty : TypeId) (pos : String) (after : Array Edge) (guard : Option (Nat × Bool)) (w : World) :
    (execOp ρ { dst, op := .store 25 x y, type := ty, pos, after, guard }).run Try.prog w = stOut (wrA w (ρ x) 2 && okA 2 (ρ y)) (stA w (ρ x) (ρ y)) (opRest Try.prog ρ { dst, op := .store 25 x y, type := ty, pos, after, guard } w) :=
  run_store_out Try.sizeOf25 ρ dst x y ty pos after guard w
@[go_sem ↓] theorem alloc_vo (ρ : Operand → Value) (dst : Option Tmp) (ty : TypeId) (pos : String) (after : Array Edge) (guard : Option (Nat × Bool)) (w : World) :
    (execOp ρ { dst, op := .alloc 25, type := ty, pos, after, guard }).run Try.prog w = .ok (.value (.pointer (some ⟨w.heap.size, 0, none⟩))) (w.alloc (.cells (vo zvo) 25)) := by
  unfold execOp
  simp only [Instr.alloc, Sem.run_bind, zero_vo, Result.andThen_ok]
  rfl
def places_vo : List (Nat × Nat) := [(0, 1), (1, 1)]
theorem fields_vo : ∀ w : World, ((Try.prog.fieldsOf 25).mapM (m := Sem) fun f => do pure (f.offset, ← Go.sizeOf f.type)).run Try.prog w = .ok places_vo.toArray w := fun _ => by kernel_rfl
theorem under_vo : Try.prog.underlying 25 = some (.struct (Try.prog.fieldsOf 25)) := by kernel_rfl
theorem flds_vo : (Try.prog.fieldsOf 25).toList.map (fun f => (f.name, f.type, f.offset)) = [("L", 22, 0), ("Out", 23, 1)] := by kernel_rfl
@[go_sem ↓] theorem build_vo (ρ : Operand → Value) (dst : Option Tmp) (p : Nat × Operand) (ps : List (Nat × Operand)) (ty : TypeId) (pos : String) (after : Array Edge) (guard : Option (Nat × Bool)) (w : World) :
    (execOp ρ { dst, op := .build 25 (p :: ps).toArray, type := ty, pos, after, guard }).run Try.prog w = vOutE ((fillA places_vo (vo zvo) ((p.1, ρ p.2) :: ps.map fun p => (p.1, ρ p.2))).map .agg) w (opRest Try.prog ρ { dst, op := .build 25 (p :: ps).toArray, type := ty, pos, after, guard } w) :=
  build_out zero_vo under_vo fields_vo ρ dst (p :: ps).toArray ty pos after guard w
@[go_sem ↓] theorem build0_vo (ρ : Operand → Value) (dst : Option Tmp) (ty : TypeId) (pos : String) (after : Array Edge) (guard : Option (Nat × Bool)) (w : World) :
    (execOp ρ { dst, op := .build 25 #[], type := ty, pos, after, guard }).run Try.prog w = .ok (.value (.agg (vo zvo))) w :=
  build_out zero_vo under_vo fields_vo ρ dst #[] ty pos after guard w
attribute [go_sem] places_vo vo_size
theorem vo_at_l (x : Vo) : voL x = ([]) ++ ([sv x.l] ++ ([num x.out])) ∧ ([] : List Value).length = 0 := by
  constructor
  · unfold voL; simp
  · rfl
theorem vo_get_l (x : Vo) : (vo x)[0]? = some (sv x.l) := get_at (vo_at_l x).1 (vo_at_l x).2
@[go_sem] theorem vo_gi_l (x : Vo) (h : 0 < (vo x).size) : (vo x)[0]'h = sv x.l := by have := vo_get_l x; rw [Array.getElem?_eq_getElem h] at this; exact Option.some.inj this
theorem vo_rd_l {w : World} {b off : Nat} {x : Vo} (h : w.rangeAt b off (voL x)) : w.cell? ⟨b, off + 0, none⟩ = some (sv x.l) := range_one h (vo_at_l x).1 (vo_at_l x).2
theorem vo_rd0_l {w : World} {g : Nat} {t : TypeId} {fr : Nat × Nat} {x : Vo} (h : w.heap[g]? = some (.cells (vo x) t fr)) : w.cell? ⟨g, 0, none⟩ = some (sv x.l) := by have := vo_rd_l (x := x) (range_block h); rwa [Nat.zero_add] at this
theorem vo_put_l (x : Vo) (y : SlV) : putSeg (vo x) 0 #[sv y] = vo { x with l := y } := by
  rw [putSeg_mid (c := vo x) (r := #[sv y]) (vo_at_l x).1 (vo_at_l x).2 rfl]
  simp [vo, voL]
theorem vo_at_out (x : Vo) : voL x = ([sv x.l]) ++ ([num x.out] ++ ([])) ∧ ([sv x.l] : List Value).length = 1 := by
  constructor
  · unfold voL; simp
  · simp
theorem vo_get_out (x : Vo) : (vo x)[1]? = some (num x.out) := get_at (vo_at_out x).1 (vo_at_out x).2
@[go_sem] theorem vo_gi_out (x : Vo) (h : 1 < (vo x).size) : (vo x)[1]'h = num x.out := by have := vo_get_out x; rw [Array.getElem?_eq_getElem h] at this; exact Option.some.inj this
theorem vo_rd_out {w : World} {b off : Nat} {x : Vo} (h : w.rangeAt b off (voL x)) : w.cell? ⟨b, off + 1, none⟩ = some (num x.out) := range_one h (vo_at_out x).1 (vo_at_out x).2
theorem vo_rd0_out {w : World} {g : Nat} {t : TypeId} {fr : Nat × Nat} {x : Vo} (h : w.heap[g]? = some (.cells (vo x) t fr)) : w.cell? ⟨g, 1, none⟩ = some (num x.out) := by have := vo_rd_out (x := x) (range_block h); rwa [Nat.zero_add] at this
theorem vo_put_out (x : Vo) (y : UInt64) : putSeg (vo x) 1 #[num y] = vo { x with out := y } := by
  rw [putSeg_mid (c := vo x) (r := #[num y]) (vo_at_out x).1 (vo_at_out x).2 rfl]
  simp [vo, voL]
@[go_sem] theorem vo_set_l (x : Vo) (y : SlV) : (vo x).setIfInBounds 0 (sv y) = vo { x with l := y } := by
  rw [setIfInBounds_seg (by rw [vo_size]; decide)]; exact vo_put_l x y
@[go_sem] theorem vo_sets_l (x : Vo) (p : Option Addr) (k c : Nat) : (vo x).setIfInBounds 0 (.slice p k c) = vo { x with l := ⟨p, k, c⟩ } := by
  rw [setIfInBounds_seg (by rw [vo_size]; decide)]; exact vo_put_l x ⟨p, k, c⟩
@[go_sem] theorem vo_set_out (x : Vo) (y : UInt64) : (vo x).setIfInBounds 1 (num y) = vo { x with out := y } := by
  rw [setIfInBounds_seg (by rw [vo_size]; decide)]; exact vo_put_out x y
@[go_sem] theorem vo_setn_out (x : Vo) (y : UInt64) : (vo x).setIfInBounds 1 (.int .u64 (y.toNat : Int)) = vo { x with out := y } := by
  rw [setIfInBounds_seg (by rw [vo_size]; decide)]; exact vo_put_out x y
attribute [go_sem] vo_put_l vo_put_out
@[go_sem] theorem vo_puts_l (x : Vo) (p : Option Addr) (k c : Nat) : putSeg (vo x) 0 #[.slice p k c] = vo { x with l := ⟨p, k, c⟩ } := vo_put_l x ⟨p, k, c⟩
@[go_sem] theorem vo_putn_out (x : Vo) (y : UInt64) : putSeg (vo x) 1 #[.int .u64 (y.toNat : Int)] = vo { x with out := y } := vo_put_out x y
theorem cellsOf_vo : Try.prog.cellsOf 25 = 2 := by kernel_rfl
section
open Go.WideShapes Go.ChangeShapes
variable {H : Type} {enc : TypeId × Value → H} {w : World} {base : Nat} {sp : Nat → Bool} {held : Bool}
theorem cells_vo {fuel : Nat} {cs : List Value} {x : DataW H × List MemPlace} (hl : cs.length = 2) (h : DataW.trod enc Try.prog w base sp held fuel 25 cs = some x) : ∃ a : Vo, cs = voL a ∧ (∃ l, SlE Elt w (sv a.l) l) := by
  obtain ⟨_, _, h0⟩ := trod_field (i := 0) under_vo flds_vo rfl h
  rw [show Try.prog.cellsOf 22 = 1 from by kernel_rfl] at h0
  obtain ⟨a0, e0, k0⟩ := cells_lts h0
  obtain ⟨_, _, h1⟩ := trod_field (i := 1) under_vo flds_vo rfl h
  rw [cellsOf_num] at h1
  obtain ⟨a1, e1⟩ := cells_num h1
  refine ⟨⟨a0, a1⟩, ?_, k0⟩
  unfold voL
  have j0 := seg_join cs 0 1
  rw [e0] at j0
  have j1 := seg_join cs 1 1
  rw [e1] at j1
  have jl : cs.drop 2 = [] := List.drop_of_length_le (by omega)
  rw [show (1 + 1) = 2 from rfl, jl, List.append_nil] at j1
  rw [← List.drop_zero (l := cs)]
  rw [← j0]
  rw [show cs.drop (0 + 1) = cs.drop 1 from rfl, ← j1]
  try rfl
theorem open_vo {r : Reach} {b0 : Nat} {v : Value} {d : DataW H} {ps : List MemPlace} (hval : Value.okWide Try.prog w r b0 25 v) (hd : DataW.Trod enc Try.prog w base sp held 25 v d ps) : ∃ a : Vo, v = .agg (vo a) ∧ (∃ l, SlE Elt w (sv a.l) l) := by
  obtain ⟨xs, rfl, hn⟩ := okWide_struct under_vo hval
  rw [cellsOf_vo] at hn
  obtain ⟨fuel, hf⟩ := hd
  obtain ⟨a, ha, k0⟩ := cells_vo (cs := xs.toList) (by rw [Array.length_toList, hn]) hf
  exact ⟨a, by rw [show xs = vo a from Array.toList_inj.1 ha], k0⟩
end
def Evo : Lie Vo := ⟨25, 2, voL, by decide, vo_len, vo_one⟩
attribute [irreducible] vo
end Go.Proofs.Ytfmbgpjpkahmnaa
