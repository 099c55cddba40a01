/-
  Behind a range over a function; for every program.
  append in a round of a range over a function; what is kept but one variable's block; for every program.
  Package delta: news, and what it hands back: the votes that were not the same before, each with its balance.
-/
import Derived.Test.YtccihllcohnnnaaQ26
import Derived.RangeFuncNested
import Derived.RangeFuncBound
import Derived.RangeFuncCalls
import Derived.RangeFuncLeaves
import Derived.RangeFuncFrom
import Derived.RangeFuncWrites
import Derived.Shelf.Abstract
import Derived.Shelf.RegionOpen
import Derived.OwnWalkIn
import Derived.TacticsInMore
import Derived.LoopNIn
import Derived.LoopIn
import Derived.Test.YtccihllcohnnnaaQ15
import Derived.Maps.OwnIn
import Derived.Test.YtccihllcohnnnaaQ13
import Derived.Test.YtccihllcohnnnaaQ16
import Derived.Test.YtccihllcohnnnaaQ20
import Derived.Test.YtccihllcohnnnaaQ28
namespace Go.Proofs.Ytccihllcohnnnaa
open Go.RowKit Go.Shelf
set_option maxRecDepth 100000

set_option maxRecDepth 100000 in
theorem cell_of_box {W : World} {B : Nat} {v : Value} {t : TypeId} (h : W.heap[B]? = some (.cells #[v] t (0, 0))) : W.cell? ⟨B, 0, none⟩ = some v ∧ W.frozen? ⟨B, 0, none⟩ = false := by
  constructor <;> simp [World.cell?, World.frozen?, h]
/-- The way out behind a range over a function: its mark's block is shut; what is answered is read then. -/
theorem leave_M {F : Fence} {n : Nat} {P : Program} {fn : Func} {tmps : Array Value} {R : Ending → World → Prop} {W : World} {D : Nat} {v : Value} (hK : W.heap[D]? = some (.deferred (some [])))
    (h : (results fn tmps).run P (W.putObj D (.deferred none)) = .ok v (W.putObj D (.deferred none)) ∧ R (.returned v) (W.putObj D (.deferred none))) : LeavesInM F n P fn tmps R [{ target := .collected D, args := #[] }] .returning W :=
  ⟨by simp, .inl ⟨D, _, rfl, run_takeDeferred hK, ⟨v, h.1, h.2⟩⟩⟩
set_option maxRecDepth 100000 in
theorem cell_shut {W : World} {D : Nat} {a : Addr} {v : Value} (hK : W.heap[D]? = some (.deferred (some []))) (hc : W.cell? a = some v) : (W.putObj D (.deferred none)).cell? a = some v :=
  cell_kept hc (grownBy_putObj' W D (.deferred none)) (fun r e => by cases e; exact ⟨_, hK, rfl⟩)
theorem below_shut {B D : Nat} {w W : World} (hK : W.heap[D]? = some (.deferred (some []))) (h : Below B w W) (hB : B ≤ D) : Below B w (W.putObj D (.deferred none)) :=
  h.grown (grownBy_putObj' W D (.deferred none)) (by have := (Array.getElem?_eq_some_iff.1 hK).1; omega) (fun k e => by cases e; exact hB)
/-- Between two rounds nothing has turned that lay when the loop began. -/
theorem own_go {α : Type} {B : Nat} {W0 : World} (p : List α → Prop) (hB : W0.heap.size ≤ B) : OwnFrom B (fun pre W => p pre ∧ Below W0.heap.size W0 W) :=
  OwnFrom.and (fun _ _ _ _ h _ _ => h) (ownFrom_below (Nat.le_refl _) hB)
/-- A round has left: a cell holds what is answered. -/
theorem own_left {α : Type} {B : Nat} {w : World} (p : List α → Prop) (a : Addr) (v : List α → Value) (hB : w.heap.size ≤ B) : OwnFrom B (fun pre W => (p pre ∧ W.cell? a = some (v pre)) ∧ Below w.heap.size w W) :=
  OwnFrom.and (Own.from (fun _ _ _ _ hs hg hr => ⟨hs.1, cell_kept hs.2 hg hr⟩) _) (ownFrom_below (Nat.le_refl _) hB)
end Go.Proofs.Ytccihllcohnnnaa
namespace Go.Proofs.Ytccihllcohnnnaa
open Go.RowKit Go.Shelf
set_option maxRecDepth 100000

/-- Nothing has turned below one block number, and below another one nothing but one block. -/
structure But (s0 n₀ D : Nat) (W W' : World) : Prop where
  below : Below s0 W W'
  block : ∀ k, k < n₀ → k ≠ D → W'.heap[k]? = W.heap[k]?
section
variable {s0 n₀ D : Nat} {A W W' : World}
theorem But.refl (s0 n₀ D : Nat) (W : World) : But s0 n₀ D W W := ⟨Below.refl _ _, fun _ _ _ => rfl⟩
theorem But.trans (h : But s0 n₀ D A W) (k : But s0 n₀ D W W') : But s0 n₀ D A W' := ⟨h.below.trans k.below, fun j hj hn => (k.block j hj hn).trans (h.block j hj hn)⟩
theorem But.of_below (h : Below n₀ W W') (hs : s0 ≤ n₀) : But s0 n₀ D W W' := ⟨h.mono hs, fun k hk _ => h.block k hk⟩
theorem But.then (h : But s0 n₀ D A W) (g : Below W.heap.size W W') (hs : s0 ≤ n₀) (hn : n₀ ≤ W.heap.size) : But s0 n₀ D A W' := h.trans (But.of_below (g.mono hn) hs)
theorem But.setCell (h : But s0 n₀ D A W) (hD : s0 ≤ D) (v : Value) : But s0 n₀ D A (W.setCell ⟨D, 0, none⟩ v) :=
  h.trans ⟨(Below.refl _ _).setCell (p := ⟨D, 0, none⟩) hD v, fun _ _ hn => Below.heap_setCell _ _ _ _ hn⟩
theorem But.blk {k : Nat} {o : Obj} (h : But s0 n₀ D W W') (hk : k < n₀) (hn : k ≠ D) (e : W.heap[k]? = some o) : W'.heap[k]? = some o := (h.block k hk hn).trans e
theorem butK_t {A B C : World} (h : But s0 n₀ D A B) (k : But s0 n₀ D B C) : But s0 n₀ D A C := h.trans k
theorem butK_b {w : World} (hs : s0 ≤ n₀) (hn : n₀ ≤ w.heap.size) (W : World) (l : Nat) (o o' : Obj) (hl : w.heap.size ≤ l) (h : W.heap[l]? = some o) (h1 : o.isCells = false) (h2 : o.isWalk = false) : But s0 n₀ D W (W.putObj l o') :=
  But.of_below (belowK_b hn W l o o' hl h h1 h2) hs
theorem But.own {α : Type} {B : Nat} {W0 : World} (hn : n₀ ≤ B) (h0 : n₀ ≤ W0.heap.size) (hs : s0 ≤ n₀) : OwnFrom B (fun (_ : List α) W => But s0 n₀ D W0 W) := fun _ W W' row h hg hr =>
  h.trans ⟨⟨hg.os, hg.tape, hg.output, hg.size, fun k hk => hg.block k (Nat.lt_of_lt_of_le (Nat.lt_of_lt_of_le (Nat.lt_of_lt_of_le hk hs) h0) h.below.size) (fun e => by have := (hr k e.symm).1; omega)⟩, fun k hk _ => hg.block k (Nat.lt_of_lt_of_le (Nat.lt_of_lt_of_le hk h0) h.below.size) (fun e => by have := (hr k e.symm).1; omega)⟩
theorem grown_of_below (h : Below W.heap.size W W') : W.grownBy W' none := ⟨h.os, h.tape, h.output, h.size, fun k hk _ => h.block k hk⟩
/-- A variable's block lies between two rounds. -/
theorem blk_own {α : Type} {B : Nat} (f : List α → Obj) (hD : D < B) : OwnFrom B (fun s W => W.heap[D]? = some (f s)) := fun _ W W' row h hg hr =>
  (hg.block D (Array.getElem?_eq_some_iff.1 h).1 (fun e => by have := (hr D e.symm).1; omega)).trans h
theorem box_set {v : Value} {t : TypeId} (h : W.heap[D]? = some (.cells #[v] t (0, 0))) (v' : Value) : (W.setCell ⟨D, 0, none⟩ v').heap[D]? = some (.cells #[v'] t (0, 0)) := by
  obtain ⟨hlt, hk⟩ := Array.getElem?_eq_some_iff.1 h
  show (W.heap.modify D _)[D]? = _
  rw [Array.getElem?_eq_getElem (by rw [Array.size_modify]; exact hlt), Array.getElem_modify_self, hk]
  rfl
/-- A row of the call's own is cells. -/
theorem own_cellsR {α : Type} {E : Lie α} {base : Nat} {v : Value} {l : List α} (ho : OwnE E W base v l) {k : Nat} {o : Obj} (hk : v.ownBlock = some k) (hb : W.heap[k]? = some o) : o.isCells = true := by
  rcases ho.2 with ⟨rfl, _⟩ | ⟨g, cap, cur, rfl, _, hg, _⟩
  · cases hk
  · have e : g = k := by injection hk
    subst e
    rw [hg] at hb
    cases hb
    rfl
theorem own_own {α β : Type} {E : Lie β} {B base : Nat} (v : List α → Value) (f : List α → List β) : OwnFrom B (fun s W => OwnE E W base (v s) (f s)) := fun _ W W' row h hg hr =>
  ownE_block h fun b hb hk => hg.block b hb (fun e => by
    obtain ⟨_, o, ho, hc⟩ := hr b e.symm
    have := own_cellsR h hk ho
    rw [this] at hc; cases hc)
end
section
variable {P : Program} {ops : Array Oper} {rest : List Oper} {o : Oper} {a : Act} {Q : Exit → Act → World → Prop}
/-- append in a round. -/
theorem wpListIn_append_E {F : Fence} {nF : Nat} {α : Type} {E : Lie α} {T : TypeId} (K : Known P E T) (w : World) (hgd : o.guard = none) (s x : Operand)
    (ho : o.op = .call { callee := .builtin .append, args := #[s, x], argTypes := #[T, T] })
    (base : Nat) (v : Value) (k : List α) (hs : a.eval s = v) (hown : OwnE E w base v k) (vx : Value) (l : List α) (hx : a.eval x = vx) (hsl : SlE E w vx l)
    (hlen : k.length + l.length ≤ 1000000) (hbase : base ≤ w.heap.size)
    (h : ∀ v' w', OwnE E w' base v' (k ++ l) → Gr w v w' v' → wpListIn F nF P ops Q rest (a.put o.dst v') w') : wpListIn F nF P ops Q (o :: rest) a w := by
  refine wpListIn_plain hgd fun K' hK' => ?_
  obtain ⟨v', w', hr, h2, h3⟩ := run_append_E K w o.type base v k hown vx l hsl hlen hbase
  unfold Oper.wpIn
  refine ⟨?_, ?_⟩
  · simp [Oper.about, ho, resolve, Target.leads, Sem.run_pure]
  · rw [Oper.semAt_plain F _ _ (by rw [ho]; intro c hc'; cases hc')]
    simp [execOp, ho, resolve, invoke, builtin, hs, hx, hr, Result.andThen]
    exact hK' _ _ (h v' w' h2 h3)
end
end Go.Proofs.Ytccihllcohnnnaa
namespace Go.Proofs.Ytccihllcohnnnaa
open Go.RowKit Go.Shelf
set_option maxRecDepth 100000

attribute [local go_sem] Oper.semAt_some
@[local go_sem ↓] theorem semAt_run14 {P : Program} (l : Option Nat) (ρ : Operand → Value) (o : Oper) (w : World) (h : ∀ c, o.op ≠ .defer c) : (Oper.semAt l ρ o).run P w = (execOp ρ o).run P w := by rw [Oper.semAt_eq l ρ o h]

set_option maxRecDepth 100000 in
set_option maxHeartbeats 1000000 in
/-- news: all three are boxed; what is handed back captures them. -/
theorem deltaNews (x y : Vo) (p : Option Addr) (n c : Nat) (w : World) :
    Calls Try.prog 30 #[.agg (vo x), .agg (vo y), .slice p n c] w fun e w' => e = .returned (.func (.func 50) #[] #[.pointer (some ⟨w.heap.size + 1, 0, none⟩), .pointer (some ⟨w.heap.size, 0, none⟩), .pointer (some ⟨w.heap.size + 1 + 1, 0, none⟩)]) ∧ w' = ((w.alloc (.cells (vo x) 28)).alloc (.cells (vo y) 28)).alloc (.cells #[.slice p n c] 29) := by
  go_enter Try.func30, Try.ntmps30
  go_wp2_with fail
  go_ret
  exact ⟨rfl, rfl⟩
theorem enters_deltaNews : ∀ args w, (callFunc 30 args).run Try.prog w = .ok (.enter 30 args) w := entersE Try.func30 (by kernel_rfl) (by kernel_rfl)

/-- Is vote k a new one? -/
def nwB (v o : Vt) (k : Nat) : Bool := (lat v.l k).has && decide (lat v.l k ≠ lat o.l k)
/-- The first n's that are. -/
def nwT (v o : Vt) (n : Nat) : List Nat := (List.range n).filter (nwB v o)
theorem nwT_yes {v o : Vt} {n : Nat} (h : nwB v o n = true) : nwT v o (n + 1) = nwT v o n ++ [n] := by unfold nwT; rw [List.range_succ, List.filter_append]; simp [h]
theorem nwT_no {v o : Vt} {n : Nat} (h : nwB v o n = false) : nwT v o (n + 1) = nwT v o n := by unfold nwT; rw [List.range_succ, List.filter_append]; simp [h]
theorem nwT_pre (v o : Vt) (n : Nat) : ∀ d, nwT v o n <+: nwT v o (n + d)
  | 0 => List.prefix_refl _
  | d + 1 => by
    have ih := nwT_pre v o n d
    cases h : nwB v o (n + d)
    · rw [show n + (d + 1) = n + d + 1 from rfl, nwT_no h]; exact ih
    · rw [show n + (d + 1) = n + d + 1 from rfl, nwT_yes h]; exact ih.trans (List.prefix_append _ _)
theorem nwT_all {v o : Vt} {n m : Nat} (h : n ≤ m) : nwT v o n <+: nwT v o m := by
  have := nwT_pre v o n (m - n)
  rwa [show n + (m - n) = m by omega] at this
theorem nwT_len (v o : Vt) (n : Nat) : (nwT v o n).length ≤ n := by
  unfold nwT
  have := List.length_filter_le (nwB v o) (List.range n)
  rwa [List.length_range] at this
theorem mem_nwT {v o : Vt} {n k : Nat} : k ∈ nwT v o n ↔ k < n ∧ nwB v o k = true := by unfold nwT; rw [List.mem_filter, List.mem_range]

theorem range_old {B b o : Nat} {W W' : World} {cs : List Value} (g : Below B W W') (hb : b < B) (h : W.rangeAt b o cs) : W'.rangeAt b o cs := fun j v hv => (g.cell (p := ⟨b, o + j, none⟩) hb).trans (h j v hv)

set_option maxRecDepth 100000 in
set_option maxHeartbeats 8000000 in
theorem news_stops (d s0 bv bb bl b1 o1 c1 b2 o2 c2 b3 o3 c3 m : Nat) (v o : Vt) (bal : List UInt64) (w : World) (hs0 : s0 ≤ w.heap.size) (hm : m ≤ 1000) (hv : v.l.length = m) (ho : o.l.length = m) (hb : bal.length = m) (q1 : bv < s0) (q2 : bb < s0) (q3 : bl < s0) (q4 : b1 < s0) (q5 : b2 < s0) (q6 : b3 < s0)
    (t0 : w.heap[bv]? = some (.cells (vo ⟨⟨some ⟨b1, o1, none⟩, m, c1⟩, v.out⟩) 28 (0, 0))) (t1 : w.heap[bb]? = some (.cells (vo ⟨⟨some ⟨b2, o2, none⟩, m, c2⟩, o.out⟩) 28 (0, 0))) (t2 : w.heap[bl]? = some (.cells #[.slice (some ⟨b3, o3, none⟩) m c3] 29 (0, 0)))
    (x1 : w.rangeAt b1 o1 (cellsE Elt v.l)) (x2 : w.rangeAt b2 o2 (cellsE Elt o.l)) (x3 : w.rangeAt b3 o3 (cellsE Enum bal)) :
    SeqStopsK Fence.wide d Try.prog 50 #[.pointer (some ⟨bv, 0, none⟩), .pointer (some ⟨bb, 0, none⟩), .pointer (some ⟨bl, 0, none⟩)] (fun x : { x : Nat // x ∈ nwT v o m } => #[Value.agg (lt (lat v.l x.1)), Value.int .u64 (fn bal x.1 : Int)]) (Below s0) (fun ys => ys.map Subtype.val = nwT v o m) (fun pre => pre.map Subtype.val <+: nwT v o m) (nwT v o m).length w := by
  intro lo J Jx W hW hAJ _ hY hJ0
  have HT : Hid (∀ W', Below s0 w W' → W'.heap[bv]? = some (.cells (vo ⟨⟨some ⟨b1, o1, none⟩, m, c1⟩, v.out⟩) 28 (0, 0)) ∧ W'.heap[bb]? = some (.cells (vo ⟨⟨some ⟨b2, o2, none⟩, m, c2⟩, o.out⟩) 28 (0, 0)) ∧ W'.heap[bl]? = some (.cells #[.slice (some ⟨b3, o3, none⟩) m c3] 29 (0, 0))) := fun W' g => ⟨(g.block _ q1).trans t0, (g.block _ q2).trans t1, (g.block _ q3).trans t2⟩
  have HX : Hid (∀ W', Below s0 w W' → W'.rangeAt b1 o1 (cellsE Elt v.l) ∧ W'.rangeAt b2 o2 (cellsE Elt o.l) ∧ W'.rangeAt b3 o3 (cellsE Enum bal)) := fun W' g => ⟨range_old g q4 x1, range_old g q5 x2, range_old g q6 x3⟩
  have HG0 : Hid (Below s0 w W) := hW.mono hs0
  have HS : Hid (∀ W', Below s0 w W' → s0 ≤ W'.heap.size) := fun W' g => Nat.le_trans hs0 g.size
  have HAJ : Hid (∀ pre W1 W', J pre W1 → Below W1.heap.size W1 W' → J pre W') := fun pre W1 W' hj g => hAJ pre W1 W' none hj (grown_of_below g) (fun r e => by cases e)
  have HY := Lib.hid hY
  have HJ0 := Lib.hid hJ0
  have HM := Lib.hid hm
  have HL := Lib.hid (show v.l.length = m ∧ o.l.length = m ∧ bal.length = m from ⟨hv, ho, hb⟩)
  clear hY hJ0 hW hAJ t0 t1 t2 x1 x2 x3 hs0 hm hv ho hb q1 q2 q3 q4 q5 q6
  have hmix : Try.prog.follows .mixedOrders = true := by kernel_rfl
  obtain ⟨z0, _⟩ := vo_cells (HT.out _ HG0.out).1
  dsimp only at z0
  rw [sv_mk] at z0
  refine callsIn_of_wp Try.func50 rfl trivial ?_ rfl
  simp only [Try.ntmps50, List.size_toArray, List.length_cons, List.length_nil, Nat.reduceAdd, Nat.reduceSub, Array.replicate_succ, Array.replicate_zero, List.push_toArray, List.append_toArray, List.nil_append, List.cons_append]
  gi_wp2
  clear z0
  gi_loopw [10] (fun u wr => ∃ (pre : List { x : Nat // x ∈ nwT v o m }) (j : Nat), u = .int .i64 (j : Int) ∧ j ≤ m ∧ pre.map Subtype.val = nwT v o j ∧ Below s0 w wr ∧ J pre wr) (fun u _ => m - (intOf u).toNat)
  case atStart => exact ⟨[], 0, rfl, Nat.zero_le _, rfl, HG0.out, HJ0.out⟩
  case round =>
    obtain ⟨pre, j, rfl, hj, hpre, hg, hjj⟩ := hrel
    have HG := Lib.hid hg
    have HJ := Lib.hid hjj
    have HE := Lib.hid hpre
    clear hg hjj hpre
    by_cases hlt : j < m
    · have d0 : decide ((j : Int) < (m : Int)) = true := decide_eq_true (by omega)
      have d0' : decide (j < m) = true := decide_eq_true hlt
      have i0 : (0 : Int) ≤ (j : Int) := by omega
      have i1 : (j : Int) < (m : Int) := by omega
      have u1 : (j : Int) + 1 < 10000 := by have := HM.out; omega
      have HLT := Lib.hid hlt
      obtain ⟨hx1, hx2, hx3⟩ := HX.out _ HG.out
      have y1 := lats_ld hx1 (i := j) (by have := HL.out.1; omega)
      have y2 := lats_ld hx2 (i := j) (by have := HL.out.2.1; omega)
      have y3 := nums_cell hx3 (i := j) (by have := HL.out.2.2; omega)
      obtain ⟨k0, k1, k2⟩ := HT.out _ HG.out
      have HN : Hid (nwB v o j = ((lat v.l j).has && decide (lat v.l j ≠ lat o.l j))) := rfl
      have HYj : Hid (∀ (hin : j ∈ nwT v o m) W1, J pre W1 → pre.length < (nwT v o m).length → YieldAt Fence.wide (d - 1) Try.prog lo #[Value.agg (lt (lat v.l j)), Value.int .u64 (fn bal j : Int)] W1 fun e W' => (e = .returned (.bool true) ∧ J (pre ++ [⟨j, hin⟩]) W' ∧ Below s0 W1 W') ∨ (e = .returned (.bool false) ∧ Jx (pre ++ [⟨j, hin⟩]) W')) := fun hin W1 h1 h2 => HY.out pre ⟨j, hin⟩ W1 h1 h2
      generalize lat v.l j = X at *
      generalize lat o.l j = Y at *
      generalize fn bal j = B at *
      obtain ⟨H, hH⟩ : ∃ H, H = X.has := ⟨_, rfl⟩
      obtain ⟨df, hdf⟩ : ∃ df, df = decide (X = Y) := ⟨_, rfl⟩
      have HN2 : Hid (nwB v o j = (H && !df)) := by show nwB v o j = _; rw [HN.out, hH, hdf, decide_not]
      have HLP : Hid (nwB v o j = true → ∃ hin : j ∈ nwT v o m, pre.length < (nwT v o m).length ∧ nwT v o (j + 1) = nwT v o j ++ [j]) := fun e => by
        refine ⟨mem_nwT.2 ⟨hlt, e⟩, ?_, nwT_yes e⟩
        have h1 := (nwT_all (v := v) (o := o) (show j + 1 ≤ m from hlt)).length_le
        have h2 := congrArg List.length HE.out
        rw [List.length_map] at h2
        rw [nwT_yes e, List.length_append, ← h2] at h1
        exact h1
      have HPF : Hid (nwB v o j = true → ∀ hin : j ∈ nwT v o m, (pre ++ [(⟨j, hin⟩ : { x // x ∈ nwT v o m })]).map Subtype.val = nwT v o (j + 1)) := fun e hin => by
        show ((pre ++ [(⟨j, hin⟩ : { x // x ∈ nwT v o m })]).map Subtype.val) = _
        rw [nwT_yes e, List.map_append, HE.out]; rfl
      clear hj hlt
      gi_wp2
      obtain ⟨W5, hW5⟩ : ∃ W5, W5 = wr.alloc (.cells (lt X) 41) := ⟨_, rfl⟩
      rw [← hW5]
      have hB5 : Below wr.heap.size wr W5 := by rw [hW5]; exact below1
      have n5 : W5.heap[wr.heap.size]? = some (.cells (lt X) 41 (0, 0)) := by rw [hW5]; exact heap_alloc_last wr _
      have HG5 : Hid (Below s0 w W5.drew) := HG.out.trans ((belowD hB5 1).mono (HS.out _ HG.out))
      have HJ5 : Hid (J pre W5.drew) := HAJ.out _ _ _ HJ.out (belowD hB5 1)
      have e0 := (lt_cells n5).1
      rw [← hH] at e0
      have e1 := ldA_block n5 (lt_size X)
      have e2 := (vo_cells (blk_keep hB5 k1)).1
      dsimp only at e2
      rw [sv_mk] at e2
      have e3 := keep hB5 y2
      have e4 := (cell_of_box (blk_keep hB5 k2)).1
      have e5 : W5.cell? ⟨b3, o3 + j, none⟩ = some (.int .u64 (B : Int)) := (hB5.cell (p := ⟨b3, o3 + j, none⟩) (block_lt_of_cell y3)).trans y3
      have L0 := fun q : Wd W5.drew => wd_cell e0 q
      have L1 := fun q : Wd W5.drew => wd_ld e1 (by decide) q
      have L2 := fun q : Wd W5.drew => wd_cell e2 q
      have L3 := fun q : Wd W5.drew => wd_ld e3 (by decide) q
      have L4 := fun q : Wd W5.drew => wd_cell e4 q
      have L5 := fun q : Wd W5.drew => wd_cell e5 q
      have tD : decide (X = Y) = df := hdf.symm
      clear hW5 hB5 n5 e0 e1 e2 e3 e4 e5 y1 y2 y3 k0 k1 k2 hx1 hx2 hx3 hH hdf HN
      obtain ⟨b5, hb5⟩ : ∃ b5, b5 = wr.heap.size := ⟨_, rfl⟩
      rw [← hb5] at L0 L1 ⊢
      clear hb5
      cases H
      · have HE2 : Hid (nwT v o (j + 1) = nwT v o j) := nwT_no (by rw [HN2.out]; rfl)
        refine wpIn_region_lexI [0, 1, 2, 3, 4, 5, 6, 7, 8, 9, 10, 11, 12, 13, 14, 15, 16, 17] [18] (by kernel_rfl) (by kernel_rfl) (by kernel_rfl) ?_
        repeat (first | (refine wpXT_quiet1I rfl rfl rfl ?_; (first | go_big_quiet_step (fail) | quiet_step (fail)); refine wpQuiet_nil ?_) | refine wpXT_skipI rfl ?_)
        refine wpXT_quiet2I rfl rfl ?_; (first | go_big_quiet_step (fail) | quiet_step (fail)); refine wpQuiet_nil ?_
        refine wpXT_nilI ?_
        gi_wp2
        go_roundw
        case rel => exact ⟨pre, j + 1, by go_num, HLT.out, by rw [HE2.out]; exact HE.out, HG5.out, HJ5.out⟩
        case measure => simp [intOf]; have := HLT.out; omega
      · cases df
        · have HNT : Hid (nwB v o j = true) := by show _ = true; rw [HN2.out]; rfl
          obtain ⟨hin, hln, hup⟩ := HLP.out HNT.out
          have HP := Lib.hid (HPF.out HNT.out hin)
          have HUP := Lib.hid hup
          obtain ⟨fn, tmps, assign, body, hy, hR⟩ := HYj.out hin W5.drew HJ5.out hln
          have HRR := Lib.hid hR
          clear hR hln hup
          refine wpIn_region_lexI [0, 1, 2, 3, 4, 5, 6, 7, 8, 9, 10, 11, 12, 13, 14, 15, 16, 17] [18] (by kernel_rfl) (by kernel_rfl) (by kernel_rfl) ?_
          repeat (first | (refine wpXT_quiet1I rfl rfl rfl ?_; (first | go_big_quiet_step (fail) | quiet_step (fail)); refine wpQuiet_nil ?_) | refine wpXT_skipI rfl ?_)
          refine wpXT_yieldI rfl rfl rfl rfl (by kernel_rfl) #[.agg (lt X), .int .u64 (B : Int)] rfl ⟨fn, tmps, assign, body, hy, RoundIn.mono HRR.out ?_⟩
          rintro e W3 (⟨rfl, hJ3, hk3⟩ | ⟨rfl, hJx3⟩)
          · have HG3 := Lib.hid (HG5.out.trans hk3)
            have HJ3 := Lib.hid hJ3
            clear hJ3 hk3
            refine ⟨_, rfl, ?_⟩
            simp only [Act.put, List.setIfInBounds_toArray, List.set_cons_zero, List.set_cons_succ]
            repeat (refine wpXT_quiet2I rfl rfl ?_; (first | go_big_quiet_step (fail) | quiet_step (fail)); refine wpQuiet_nil ?_)
            refine wpXT_nilI ?_
            gi_wp2
            go_roundw
            case rel => exact ⟨pre ++ [⟨j, hin⟩], j + 1, by go_num, HLT.out, HP.out, HG3.out, HJ3.out⟩
            case measure => simp [intOf]; have := HLT.out; omega
          · have HJ3 := Lib.hid hJx3
            clear hJx3
            refine ⟨_, rfl, ?_⟩
            simp only [Act.put, List.setIfInBounds_toArray, List.set_cons_zero, List.set_cons_succ]
            repeat (refine wpXT_quiet2I rfl rfl ?_; (first | go_big_quiet_step (fail) | quiet_step (fail)); refine wpQuiet_nil ?_)
            refine wpXT_nilI ?_
            gi_wp2
            refine bodyPost_ret (results_none rfl _ _ _) rfl ?_
            exact ⟨⟨_, rfl⟩, .inr ⟨pre ++ [⟨j, hin⟩], by rw [HP.out]; exact nwT_all HLT.out, HJ3.out⟩⟩
        · have HE2 : Hid (nwT v o (j + 1) = nwT v o j) := nwT_no (by rw [HN2.out]; rfl)
          refine wpIn_region_lexI [0, 1, 2, 3, 4, 5, 6, 7, 8, 9, 10, 11, 12, 13, 14, 15, 16, 17] [18] (by kernel_rfl) (by kernel_rfl) (by kernel_rfl) ?_
          repeat (first | (refine wpXT_quiet1I rfl rfl rfl ?_; (first | go_big_quiet_step (fail) | quiet_step (fail)); refine wpQuiet_nil ?_) | refine wpXT_skipI rfl ?_)
          refine wpXT_quiet2I rfl rfl ?_; (first | go_big_quiet_step (fail) | quiet_step (fail)); refine wpQuiet_nil ?_
          refine wpXT_nilI ?_
          gi_wp2
          go_roundw
          case rel => exact ⟨pre, j + 1, by go_num, HLT.out, by rw [HE2.out]; exact HE.out, HG5.out, HJ5.out⟩
          case measure => simp [intOf]; have := HLT.out; omega
    · obtain rfl : j = m := by omega
      clear hlt
      gi_wp2
      go_end0
      exact ⟨⟨_, rfl⟩, .inl ⟨pre, HE.out, HJ.out⟩⟩
theorem enters_news1 : ∀ args w, (callFunc 50 args).run Try.prog w = .ok (.enter 50 args) w := entersE Try.func50 (by kernel_rfl) (by kernel_rfl)
end Go.Proofs.Ytccihllcohnnnaa
