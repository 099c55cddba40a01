/-
  Behind a range over a function; for every program.
  append in a round of a range over a function; what is kept but one variable's block; for every program.
  Bits of numbers of 64 bits, one at a time, plainly: what &, &^ and | of one bit come to.
-/
import Derived.Test.YtkbifcfgcokmlaaQ21
import Derived.RangeFuncNested
import Derived.RangeFuncBound
import Derived.RangeFuncCalls
import Derived.RangeFuncLeaves
import Derived.RangeFuncFrom
import Derived.RangeFuncWrites
import Derived.Shelf.Abstract
import Derived.Shelf.RegionOpen
import Derived.OwnWalkIn
import Derived.TacticsInMore
import Derived.LoopNIn
import Derived.LoopIn
import Derived.Test.YtkbifcfgcokmlaaQ13
import Derived.Maps.OwnIn
import Derived.Test.YtkbifcfgcokmlaaQ10
import Derived.Laws.Bits64b
import Derived.Laws.BitsAllLaws
namespace Go.Proofs.Ytkbifcfgcokmlaa
open Go.RowKit Go.Shelf
set_option maxRecDepth 100000

set_option maxRecDepth 100000 in
theorem cell_of_box {W : World} {B : Nat} {v : Value} {t : TypeId} (h : W.heap[B]? = some (.cells #[v] t (0, 0))) : W.cell? ⟨B, 0, none⟩ = some v ∧ W.frozen? ⟨B, 0, none⟩ = false := by
  constructor <;> simp [World.cell?, World.frozen?, h]
/-- The way out behind a range over a function: its mark's block is shut; what is answered is read then. -/
theorem leave_M {F : Fence} {n : Nat} {P : Program} {fn : Func} {tmps : Array Value} {R : Ending → World → Prop} {W : World} {D : Nat} {v : Value} (hK : W.heap[D]? = some (.deferred (some [])))
    (h : (results fn tmps).run P (W.putObj D (.deferred none)) = .ok v (W.putObj D (.deferred none)) ∧ R (.returned v) (W.putObj D (.deferred none))) : LeavesInM F n P fn tmps R [{ target := .collected D, args := #[] }] .returning W :=
  ⟨by simp, .inl ⟨D, _, rfl, run_takeDeferred hK, ⟨v, h.1, h.2⟩⟩⟩
set_option maxRecDepth 100000 in
theorem cell_shut {W : World} {D : Nat} {a : Addr} {v : Value} (hK : W.heap[D]? = some (.deferred (some []))) (hc : W.cell? a = some v) : (W.putObj D (.deferred none)).cell? a = some v :=
  cell_kept hc (grownBy_putObj' W D (.deferred none)) (fun r e => by cases e; exact ⟨_, hK, rfl⟩)
theorem below_shut {B D : Nat} {w W : World} (hK : W.heap[D]? = some (.deferred (some []))) (h : Below B w W) (hB : B ≤ D) : Below B w (W.putObj D (.deferred none)) :=
  h.grown (grownBy_putObj' W D (.deferred none)) (by have := (Array.getElem?_eq_some_iff.1 hK).1; omega) (fun k e => by cases e; exact hB)
/-- Between two rounds nothing has turned that lay when the loop began. -/
theorem own_go {α : Type} {B : Nat} {W0 : World} (p : List α → Prop) (hB : W0.heap.size ≤ B) : OwnFrom B (fun pre W => p pre ∧ Below W0.heap.size W0 W) :=
  OwnFrom.and (fun _ _ _ _ h _ _ => h) (ownFrom_below (Nat.le_refl _) hB)
/-- A round has left: a cell holds what is answered. -/
theorem own_left {α : Type} {B : Nat} {w : World} (p : List α → Prop) (a : Addr) (v : List α → Value) (hB : w.heap.size ≤ B) : OwnFrom B (fun pre W => (p pre ∧ W.cell? a = some (v pre)) ∧ Below w.heap.size w W) :=
  OwnFrom.and (Own.from (fun _ _ _ _ hs hg hr => ⟨hs.1, cell_kept hs.2 hg hr⟩) _) (ownFrom_below (Nat.le_refl _) hB)
end Go.Proofs.Ytkbifcfgcokmlaa
namespace Go.Proofs.Ytkbifcfgcokmlaa
open Go.RowKit Go.Shelf
set_option maxRecDepth 100000

/-- Nothing has turned below one block number, and below another one nothing but one block. -/
structure But (s0 n₀ D : Nat) (W W' : World) : Prop where
  below : Below s0 W W'
  block : ∀ k, k < n₀ → k ≠ D → W'.heap[k]? = W.heap[k]?
section
variable {s0 n₀ D : Nat} {A W W' : World}
theorem But.refl (s0 n₀ D : Nat) (W : World) : But s0 n₀ D W W := ⟨Below.refl _ _, fun _ _ _ => rfl⟩
theorem But.trans (h : But s0 n₀ D A W) (k : But s0 n₀ D W W') : But s0 n₀ D A W' := ⟨h.below.trans k.below, fun j hj hn => (k.block j hj hn).trans (h.block j hj hn)⟩
theorem But.of_below (h : Below n₀ W W') (hs : s0 ≤ n₀) : But s0 n₀ D W W' := ⟨h.mono hs, fun k hk _ => h.block k hk⟩
theorem But.then (h : But s0 n₀ D A W) (g : Below W.heap.size W W') (hs : s0 ≤ n₀) (hn : n₀ ≤ W.heap.size) : But s0 n₀ D A W' := h.trans (But.of_below (g.mono hn) hs)
theorem But.setCell (h : But s0 n₀ D A W) (hD : s0 ≤ D) (v : Value) : But s0 n₀ D A (W.setCell ⟨D, 0, none⟩ v) :=
  h.trans ⟨(Below.refl _ _).setCell (p := ⟨D, 0, none⟩) hD v, fun _ _ hn => Below.heap_setCell _ _ _ _ hn⟩
theorem But.blk {k : Nat} {o : Obj} (h : But s0 n₀ D W W') (hk : k < n₀) (hn : k ≠ D) (e : W.heap[k]? = some o) : W'.heap[k]? = some o := (h.block k hk hn).trans e
theorem butK_t {A B C : World} (h : But s0 n₀ D A B) (k : But s0 n₀ D B C) : But s0 n₀ D A C := h.trans k
theorem butK_b {w : World} (hs : s0 ≤ n₀) (hn : n₀ ≤ w.heap.size) (W : World) (l : Nat) (o o' : Obj) (hl : w.heap.size ≤ l) (h : W.heap[l]? = some o) (h1 : o.isCells = false) (h2 : o.isWalk = false) : But s0 n₀ D W (W.putObj l o') :=
  But.of_below (belowK_b hn W l o o' hl h h1 h2) hs
theorem But.own {α : Type} {B : Nat} {W0 : World} (hn : n₀ ≤ B) (h0 : n₀ ≤ W0.heap.size) (hs : s0 ≤ n₀) : OwnFrom B (fun (_ : List α) W => But s0 n₀ D W0 W) := fun _ W W' row h hg hr =>
  h.trans ⟨⟨hg.os, hg.tape, hg.output, hg.size, fun k hk => hg.block k (Nat.lt_of_lt_of_le (Nat.lt_of_lt_of_le (Nat.lt_of_lt_of_le hk hs) h0) h.below.size) (fun e => by have := (hr k e.symm).1; omega)⟩, fun k hk _ => hg.block k (Nat.lt_of_lt_of_le (Nat.lt_of_lt_of_le hk h0) h.below.size) (fun e => by have := (hr k e.symm).1; omega)⟩
theorem grown_of_below (h : Below W.heap.size W W') : W.grownBy W' none := ⟨h.os, h.tape, h.output, h.size, fun k hk _ => h.block k hk⟩
/-- A variable's block lies between two rounds. -/
theorem blk_own {α : Type} {B : Nat} (f : List α → Obj) (hD : D < B) : OwnFrom B (fun s W => W.heap[D]? = some (f s)) := fun _ W W' row h hg hr =>
  (hg.block D (Array.getElem?_eq_some_iff.1 h).1 (fun e => by have := (hr D e.symm).1; omega)).trans h
theorem box_set {v : Value} {t : TypeId} (h : W.heap[D]? = some (.cells #[v] t (0, 0))) (v' : Value) : (W.setCell ⟨D, 0, none⟩ v').heap[D]? = some (.cells #[v'] t (0, 0)) := by
  obtain ⟨hlt, hk⟩ := Array.getElem?_eq_some_iff.1 h
  show (W.heap.modify D _)[D]? = _
  rw [Array.getElem?_eq_getElem (by rw [Array.size_modify]; exact hlt), Array.getElem_modify_self, hk]
  rfl
/-- A row of the call's own is cells. -/
theorem own_cellsR {α : Type} {E : Lie α} {base : Nat} {v : Value} {l : List α} (ho : OwnE E W base v l) {k : Nat} {o : Obj} (hk : v.ownBlock = some k) (hb : W.heap[k]? = some o) : o.isCells = true := by
  rcases ho.2 with ⟨rfl, _⟩ | ⟨g, cap, cur, rfl, _, hg, _⟩
  · cases hk
  · have e : g = k := by injection hk
    subst e
    rw [hg] at hb
    cases hb
    rfl
theorem own_own {α β : Type} {E : Lie β} {B base : Nat} (v : List α → Value) (f : List α → List β) : OwnFrom B (fun s W => OwnE E W base (v s) (f s)) := fun _ W W' row h hg hr =>
  ownE_block h fun b hb hk => hg.block b hb (fun e => by
    obtain ⟨_, o, ho, hc⟩ := hr b e.symm
    have := own_cellsR h hk ho
    rw [this] at hc; cases hc)
end
section
variable {P : Program} {ops : Array Oper} {rest : List Oper} {o : Oper} {a : Act} {Q : Exit → Act → World → Prop}
/-- append in a round. -/
theorem wpListIn_append_E {F : Fence} {nF : Nat} {α : Type} {E : Lie α} {T : TypeId} (K : Known P E T) (w : World) (hgd : o.guard = none) (s x : Operand)
    (ho : o.op = .call { callee := .builtin .append, args := #[s, x], argTypes := #[T, T] })
    (base : Nat) (v : Value) (k : List α) (hs : a.eval s = v) (hown : OwnE E w base v k) (vx : Value) (l : List α) (hx : a.eval x = vx) (hsl : SlE E w vx l)
    (hlen : k.length + l.length ≤ 1000000) (hbase : base ≤ w.heap.size)
    (h : ∀ v' w', OwnE E w' base v' (k ++ l) → Gr w v w' v' → wpListIn F nF P ops Q rest (a.put o.dst v') w') : wpListIn F nF P ops Q (o :: rest) a w := by
  refine wpListIn_plain hgd fun K' hK' => ?_
  obtain ⟨v', w', hr, h2, h3⟩ := run_append_E K w o.type base v k hown vx l hsl hlen hbase
  unfold Oper.wpIn
  refine ⟨?_, ?_⟩
  · simp [Oper.about, ho, resolve, Target.leads, Sem.run_pure]
  · rw [Oper.semAt_plain F _ _ (by rw [ho]; intro c hc'; cases hc')]
    simp [execOp, ho, resolve, invoke, builtin, hs, hx, hr, Result.andThen]
    exact hK' _ _ (h v' w' h2 h3)
end
end Go.Proofs.Ytkbifcfgcokmlaa
namespace Go.Proofs.Ytkbifcfgcokmlaa
open Go.RowKit
set_option maxRecDepth 100000

theorem and_bit (mask : UInt64) {j : Nat} (h : j < 64) : bits .and .u64 (mask.toNat : Int) (bitN (j : Int) : Int) = ((mask.toNat &&& 2 ^ j : Nat) : Int) := by
  have : 2 ^ j ≤ 2 ^ 63 := Nat.pow_le_pow_right (by omega) (by omega)
  rw [bitN_nat h, bits_and_u64_nat _ _ mask.toNat_lt (by omega)]
theorem and_pow (x j : Nat) : x &&& 2 ^ j = if x.testBit j = true then 2 ^ j else 0 := by
  refine Nat.eq_of_testBit_eq fun i => ?_
  rw [Nat.testBit_and, Nat.testBit_two_pow]
  by_cases e : j = i
  · subst e
    cases h : x.testBit j <;> simp
  · rw [decide_eq_false e, Bool.and_false]
    split
    · rw [Nat.testBit_two_pow, decide_eq_false e]
    · simp
theorem and_has (mask : UInt64) (j : Nat) : (((mask.toNat &&& 2 ^ j : Nat) : Int) != 0) = hasB mask j := by
  unfold hasB
  rw [and_pow]
  have hp := Nat.two_pow_pos j
  by_cases h : mask.toNat.testBit j = true
  · rw [if_pos h, h, bne_iff_ne]
    generalize 2 ^ j = x at *
    omega
  · rw [if_neg h, eq_false_of_ne_true h]
    rfl
/-- The number without its j lowest bits. -/
def clrU (x j : Nat) : Nat := x >>> j <<< j
theorem clr_bit (x j i : Nat) : (clrU x j).testBit i = (decide (j ≤ i) && x.testBit i) := by
  unfold clrU
  rw [Nat.testBit_shiftLeft, Nat.testBit_shiftRight]
  by_cases h : j ≤ i
  · simp only [ge_iff_le, decide_eq_true h]; rw [show j + (i - j) = i by omega]
  · simp only [ge_iff_le, decide_eq_false h, Bool.false_and]
theorem clr_zero (x : Nat) : clrU x 0 = x := Nat.eq_of_testBit_eq fun i => by rw [clr_bit, decide_eq_true (Nat.zero_le _), Bool.true_and]
theorem clr_le (x j : Nat) : clrU x j ≤ x := by
  unfold clrU
  rw [Nat.shiftRight_eq_div_pow, Nat.shiftLeft_eq]
  exact Nat.div_mul_le_self _ _
theorem clr_next {x j : Nat} (hx : x < 18446744073709551616) (h : j < 64) : bits .andNot .u64 (clrU x j : Int) (bitN (j : Int) : Int) = (clrU x (j + 1) : Int) := by
  have h2 : 2 ^ j ≤ 2 ^ 63 := Nat.pow_le_pow_right (by omega) (by omega)
  have h3 := clr_le x j
  rw [bitN_nat h, u64_andNot_nat _ _ (by omega) (by omega)]
  congr 1
  refine Nat.eq_of_testBit_eq fun i => ?_
  rw [Nat.testBit_and, clr_bit, clr_bit, show 18446744073709551615 - 2 ^ j = 2 ^ 64 - (2 ^ j + 1) by omega, Nat.testBit_two_pow_sub_succ (by omega), Nat.testBit_two_pow]
  by_cases h4 : i < 64
  · rw [decide_eq_true h4, Bool.true_and]
    by_cases e : j = i
    · subst e; rw [decide_eq_false (show ¬ j + 1 ≤ j by omega)]; simp
    · rw [decide_eq_false e]
      by_cases e2 : j ≤ i
      · rw [decide_eq_true e2, decide_eq_true (show j + 1 ≤ i by omega)]; simp
      · rw [decide_eq_false e2, decide_eq_false (show ¬ j + 1 ≤ i by omega)]; simp
  · have : x.testBit i = false := Nat.testBit_lt_two_pow (Nat.lt_of_lt_of_le hx (show 18446744073709551616 ≤ 2 ^ i by rw [show 18446744073709551616 = 2 ^ 64 from rfl]; exact Nat.pow_le_pow_right (by omega) (by omega)))
    rw [this]; simp
theorem clr_none {x n : Nat} : clrU x n = 0 ↔ ∀ i, n ≤ i → x.testBit i = false := by
  constructor
  · intro e i hi
    have := clr_bit x n i
    rw [e, Nat.zero_testBit, decide_eq_true hi, Bool.true_and] at this
    exact this.symm
  · intro h
    refine Nat.eq_of_testBit_eq fun i => ?_
    rw [clr_bit, Nat.zero_testBit]
    by_cases hi : n ≤ i
    · rw [h i hi, Bool.and_false]
    · rw [decide_eq_false hi, Bool.false_and]
end Go.Proofs.Ytkbifcfgcokmlaa
