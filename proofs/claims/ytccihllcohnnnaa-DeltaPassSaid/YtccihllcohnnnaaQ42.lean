/-
  Package num, as other packages call it: Down, over natural numbers.
  weight.change: its plain data, its cells, loads, stores, literals, ==, its parts in memory, an argument; in any translation that has it. (written by wip/mkstruct.py)
-/
import Derived.Test.YtccihllcohnnnaaQ41
import Derived.Test.YtccihllcohnnnaaQ10
import Derived.Test.YtccihllcohnnnaaQ14
import Derived.Test.YtccihllcohnnnaaQ15
namespace Go.Proofs.Ytccihllcohnnnaa
open Go.RowKit
set_option maxRecDepth 100000
set_option maxHeartbeats 400000 in
theorem numOr0 (m : Int) (b : Bool) (w : World) :
    Calls Try.prog 63 #[.func (.func 61) #[.agg #[.int .u64 m, .bool b]] #[], .int .u64 0] w fun e w' => e = .returned (.int .u64 (if b = true then m else 0)) ∧ Below w.heap.size w w' := by
  have d := Lib.hid (told_any m b)
  cases b
  · go_enter Try.func63, Try.ntmps63
    go_wp2_with fail
    refine (d.out w).mono ?_
    rintro e w2 ⟨rfl, h2⟩
    go_wp2_with fail
    go_ret
    exact ⟨rfl, h2⟩
  · go_enter Try.func63, Try.ntmps63
    go_wp2_with fail
    refine (d.out w).mono ?_
    rintro e w2 ⟨rfl, h2⟩
    go_wp2_with fail
    go_ret
    exact ⟨rfl, h2⟩
set_option maxHeartbeats 400000 in
/-- num.Down. -/
theorem numDown (a b : Nat) (ha : a < 18446744073709551616) (w : World) :
    Calls Try.prog 53 #[.int .u64 (a : Int), .int .u64 (b : Int)] w fun e w' => e = .returned (.int .u64 (lessV a b : Int)) ∧ Below w.heap.size w w' := by
  have c := Lib.hid (numDiff a b w)
  have d := Lib.hid (numOr0 (IntKind.u64.wrap ((a : Int) - (b : Int))) (lessOk a b))
  rw [less_wrap a b ha] at d
  obtain ⟨m, hm⟩ : ∃ m, m = IntKind.u64.wrap ((a : Int) - (b : Int)) := ⟨_, rfl⟩
  obtain ⟨v, hv⟩ : ∃ v, v = lessV a b := ⟨_, rfl⟩
  obtain ⟨ok, hok⟩ : ∃ x, x = lessOk a b := ⟨_, rfl⟩
  rw [← hm, ← hok] at c
  rw [← hm, ← hv, ← hok] at d
  rw [← hv]
  clear ha hm hv hok
  go_enter Try.func53, Try.ntmps53
  go_wp2_with fail
  refine c.out.mono ?_
  rintro e w1 ⟨rfl, h1⟩
  go_wp2_with fail
  refine (d.out w1).mono ?_
  rintro e w2 ⟨rfl, h2⟩
  go_wp2_with fail
  go_ret
  exact ⟨rfl, belowT h1 h2⟩
theorem enters_numDown : ∀ args w, (callFunc 53 args).run Try.prog w = .ok (.enter 53 args) w := entersE Try.func53 (by kernel_rfl) (by kernel_rfl)
end Go.Proofs.Ytccihllcohnnnaa
namespace Go.Proofs.Ytccihllcohnnnaa
open Go.RowKit
set_option maxRecDepth 100000

structure Ch where
  l : SlV
  more : SlV
  less : SlV
theorem Ch.ext {x y : Ch} (h0 : x.l = y.l) (h1 : x.more = y.more) (h2 : x.less = y.less) : x = y := by cases x; cases y; simp_all
def chL (x : Ch) : List Value := [sv x.l] ++ ([sv x.more] ++ ([sv x.less]))
def ch (x : Ch) : Array Value := (chL x).toArray
theorem ch_list (x : Ch) : (ch x).toList = chL x := rfl
theorem ch_len (x : Ch) : (chL x).length = 3 := by simp [chL]
theorem ch_size (x : Ch) : (ch x).size = 3 := by rw [← Array.length_toList, ch_list, ch_len]
theorem ch_one (x : Ch) : ∀ v ∈ chL x, v.oneCell' = true := by
  intro v hv
  unfold chL at hv
  simp only [List.mem_append, List.mem_singleton] at hv
  rcases hv with rfl | rfl | rfl
  · rfl
  · rfl
  · rfl
@[go_sem] theorem okA_ch (x : Ch) : okA 3 (.agg (ch x)) = true := by
  show ((ch x).size == 3 && (ch x).all (·.oneCell')) = true
  rw [show (ch x).all (·.oneCell') = true from all_one (ch_one x), ch_size]; rfl
def zch : Ch := ⟨⟨none, 0, 0⟩, ⟨none, 0, 0⟩, ⟨none, 0, 0⟩⟩
theorem zero_ch (w : World) : (zeroValue 64).run Try.prog w = .ok (.agg (ch zch)) w := by kernel_rfl
@[go_sem ↓] theorem load_ch (ρ : Operand → Value) (dst : Option Tmp) (x : Operand) (ty : TypeId) (pos : String) (after : Array Edge) (guard : Option (Nat × Bool)) (w : World) :
    (execOp ρ { dst, op := .load 64 x, type := ty, pos, after, guard }).run Try.prog w = ldOut (ldA w (ρ x) 3) w (opRest Try.prog ρ { dst, op := .load 64 x, type := ty, pos, after, guard } w) :=
  run_load_out Try.isAgg64 Try.sizeOf64 ρ dst x ty pos after guard w
@[go_sem ↓] theorem store_ch (ρ : Operand → Value) (dst : Option Tmp) (x y : Operand) (ty : TypeId) (pos : String) (after : Array Edge) (guard : Option (Nat × Bool)) (w : World) :
    (execOp ρ { dst, op := .store 64 x y, type := ty, pos, after, guard }).run Try.prog w = stOut (wrA w (ρ x) 3 && okA 3 (ρ y)) (stA w (ρ x) (ρ y)) (opRest Try.prog ρ { dst, op := .store 64 x y, type := ty, pos, after, guard } w) :=
  run_store_out Try.sizeOf64 ρ dst x y ty pos after guard w
@[go_sem ↓] theorem alloc_ch (ρ : Operand → Value) (dst : Option Tmp) (ty : TypeId) (pos : String) (after : Array Edge) (guard : Option (Nat × Bool)) (w : World) :
    (execOp ρ { dst, op := .alloc 64, type := ty, pos, after, guard }).run Try.prog w = .ok (.value (.pointer (some ⟨w.heap.size, 0, none⟩))) (w.alloc (.cells (ch zch) 64)) := by
  unfold execOp
  simp only [Instr.alloc, Sem.run_bind, zero_ch, Result.andThen_ok]
  rfl
def places_ch : List (Nat × Nat) := [(0, 1), (1, 1), (2, 1)]
theorem fields_ch : ∀ w : World, ((Try.prog.fieldsOf 64).mapM (m := Sem) fun f => do pure (f.offset, ← Go.sizeOf f.type)).run Try.prog w = .ok places_ch.toArray w := fun _ => by kernel_rfl
theorem under_ch : Try.prog.underlying 64 = some (.struct (Try.prog.fieldsOf 64)) := by kernel_rfl
theorem flds_ch : (Try.prog.fieldsOf 64).toList.map (fun f => (f.name, f.type, f.offset)) = [("l", 29, 0), ("more", 29, 1), ("less", 29, 2)] := by kernel_rfl
@[go_sem ↓] theorem build_ch (ρ : Operand → Value) (dst : Option Tmp) (p : Nat × Operand) (ps : List (Nat × Operand)) (ty : TypeId) (pos : String) (after : Array Edge) (guard : Option (Nat × Bool)) (w : World) :
    (execOp ρ { dst, op := .build 64 (p :: ps).toArray, type := ty, pos, after, guard }).run Try.prog w = vOutE ((fillA places_ch (ch zch) ((p.1, ρ p.2) :: ps.map fun p => (p.1, ρ p.2))).map .agg) w (opRest Try.prog ρ { dst, op := .build 64 (p :: ps).toArray, type := ty, pos, after, guard } w) :=
  build_out zero_ch under_ch fields_ch ρ dst (p :: ps).toArray ty pos after guard w
@[go_sem ↓] theorem build0_ch (ρ : Operand → Value) (dst : Option Tmp) (ty : TypeId) (pos : String) (after : Array Edge) (guard : Option (Nat × Bool)) (w : World) :
    (execOp ρ { dst, op := .build 64 #[], type := ty, pos, after, guard }).run Try.prog w = .ok (.value (.agg (ch zch))) w :=
  build_out zero_ch under_ch fields_ch ρ dst #[] ty pos after guard w
attribute [go_sem] places_ch ch_size
theorem ch_at_l (x : Ch) : chL x = ([]) ++ ([sv x.l] ++ ([sv x.more] ++ ([sv x.less]))) ∧ ([] : List Value).length = 0 := by
  constructor
  · unfold chL; simp
  · rfl
theorem ch_get_l (x : Ch) : (ch x)[0]? = some (sv x.l) := get_at (ch_at_l x).1 (ch_at_l x).2
@[go_sem] theorem ch_gi_l (x : Ch) (h : 0 < (ch x).size) : (ch x)[0]'h = sv x.l := by have := ch_get_l x; rw [Array.getElem?_eq_getElem h] at this; exact Option.some.inj this
theorem ch_rd_l {w : World} {b off : Nat} {x : Ch} (h : w.rangeAt b off (chL x)) : w.cell? ⟨b, off + 0, none⟩ = some (sv x.l) := range_one h (ch_at_l x).1 (ch_at_l x).2
theorem ch_rd0_l {w : World} {g : Nat} {t : TypeId} {fr : Nat × Nat} {x : Ch} (h : w.heap[g]? = some (.cells (ch x) t fr)) : w.cell? ⟨g, 0, none⟩ = some (sv x.l) := by have := ch_rd_l (x := x) (range_block h); rwa [Nat.zero_add] at this
theorem ch_put_l (x : Ch) (y : SlV) : putSeg (ch x) 0 #[sv y] = ch { x with l := y } := by
  rw [putSeg_mid (c := ch x) (r := #[sv y]) (ch_at_l x).1 (ch_at_l x).2 rfl]
  simp [ch, chL]
theorem ch_at_more (x : Ch) : chL x = ([sv x.l]) ++ ([sv x.more] ++ ([sv x.less])) ∧ ([sv x.l] : List Value).length = 1 := by
  constructor
  · unfold chL; simp
  · simp
theorem ch_get_more (x : Ch) : (ch x)[1]? = some (sv x.more) := get_at (ch_at_more x).1 (ch_at_more x).2
@[go_sem] theorem ch_gi_more (x : Ch) (h : 1 < (ch x).size) : (ch x)[1]'h = sv x.more := by have := ch_get_more x; rw [Array.getElem?_eq_getElem h] at this; exact Option.some.inj this
theorem ch_rd_more {w : World} {b off : Nat} {x : Ch} (h : w.rangeAt b off (chL x)) : w.cell? ⟨b, off + 1, none⟩ = some (sv x.more) := range_one h (ch_at_more x).1 (ch_at_more x).2
theorem ch_rd0_more {w : World} {g : Nat} {t : TypeId} {fr : Nat × Nat} {x : Ch} (h : w.heap[g]? = some (.cells (ch x) t fr)) : w.cell? ⟨g, 1, none⟩ = some (sv x.more) := by have := ch_rd_more (x := x) (range_block h); rwa [Nat.zero_add] at this
theorem ch_put_more (x : Ch) (y : SlV) : putSeg (ch x) 1 #[sv y] = ch { x with more := y } := by
  rw [putSeg_mid (c := ch x) (r := #[sv y]) (ch_at_more x).1 (ch_at_more x).2 rfl]
  simp [ch, chL]
theorem ch_at_less (x : Ch) : chL x = ([sv x.l] ++ [sv x.more]) ++ ([sv x.less] ++ ([])) ∧ ([sv x.l] ++ [sv x.more] : List Value).length = 2 := by
  constructor
  · unfold chL; simp
  · simp
theorem ch_get_less (x : Ch) : (ch x)[2]? = some (sv x.less) := get_at (ch_at_less x).1 (ch_at_less x).2
@[go_sem] theorem ch_gi_less (x : Ch) (h : 2 < (ch x).size) : (ch x)[2]'h = sv x.less := by have := ch_get_less x; rw [Array.getElem?_eq_getElem h] at this; exact Option.some.inj this
theorem ch_rd_less {w : World} {b off : Nat} {x : Ch} (h : w.rangeAt b off (chL x)) : w.cell? ⟨b, off + 2, none⟩ = some (sv x.less) := range_one h (ch_at_less x).1 (ch_at_less x).2
theorem ch_rd0_less {w : World} {g : Nat} {t : TypeId} {fr : Nat × Nat} {x : Ch} (h : w.heap[g]? = some (.cells (ch x) t fr)) : w.cell? ⟨g, 2, none⟩ = some (sv x.less) := by have := ch_rd_less (x := x) (range_block h); rwa [Nat.zero_add] at this
theorem ch_put_less (x : Ch) (y : SlV) : putSeg (ch x) 2 #[sv y] = ch { x with less := y } := by
  rw [putSeg_mid (c := ch x) (r := #[sv y]) (ch_at_less x).1 (ch_at_less x).2 rfl]
  simp [ch, chL]
@[go_sem] theorem ch_set_l (x : Ch) (y : SlV) : (ch x).setIfInBounds 0 (sv y) = ch { x with l := y } := by
  rw [setIfInBounds_seg (by rw [ch_size]; decide)]; exact ch_put_l x y
@[go_sem] theorem ch_sets_l (x : Ch) (p : Option Addr) (k c : Nat) : (ch x).setIfInBounds 0 (.slice p k c) = ch { x with l := ⟨p, k, c⟩ } := by
  rw [setIfInBounds_seg (by rw [ch_size]; decide)]; exact ch_put_l x ⟨p, k, c⟩
@[go_sem] theorem ch_set_more (x : Ch) (y : SlV) : (ch x).setIfInBounds 1 (sv y) = ch { x with more := y } := by
  rw [setIfInBounds_seg (by rw [ch_size]; decide)]; exact ch_put_more x y
@[go_sem] theorem ch_sets_more (x : Ch) (p : Option Addr) (k c : Nat) : (ch x).setIfInBounds 1 (.slice p k c) = ch { x with more := ⟨p, k, c⟩ } := by
  rw [setIfInBounds_seg (by rw [ch_size]; decide)]; exact ch_put_more x ⟨p, k, c⟩
@[go_sem] theorem ch_set_less (x : Ch) (y : SlV) : (ch x).setIfInBounds 2 (sv y) = ch { x with less := y } := by
  rw [setIfInBounds_seg (by rw [ch_size]; decide)]; exact ch_put_less x y
@[go_sem] theorem ch_sets_less (x : Ch) (p : Option Addr) (k c : Nat) : (ch x).setIfInBounds 2 (.slice p k c) = ch { x with less := ⟨p, k, c⟩ } := by
  rw [setIfInBounds_seg (by rw [ch_size]; decide)]; exact ch_put_less x ⟨p, k, c⟩
attribute [go_sem] ch_put_l ch_put_more ch_put_less
@[go_sem] theorem ch_puts_l (x : Ch) (p : Option Addr) (k c : Nat) : putSeg (ch x) 0 #[.slice p k c] = ch { x with l := ⟨p, k, c⟩ } := ch_put_l x ⟨p, k, c⟩
@[go_sem] theorem ch_puts_more (x : Ch) (p : Option Addr) (k c : Nat) : putSeg (ch x) 1 #[.slice p k c] = ch { x with more := ⟨p, k, c⟩ } := ch_put_more x ⟨p, k, c⟩
@[go_sem] theorem ch_puts_less (x : Ch) (p : Option Addr) (k c : Nat) : putSeg (ch x) 2 #[.slice p k c] = ch { x with less := ⟨p, k, c⟩ } := ch_put_less x ⟨p, k, c⟩
theorem cellsOf_ch : Try.prog.cellsOf 64 = 3 := by kernel_rfl
end Go.Proofs.Ytccihllcohnnnaa
