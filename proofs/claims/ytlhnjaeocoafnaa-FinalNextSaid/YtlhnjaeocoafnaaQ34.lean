/-
  append in a round of a range over a function; what is kept but one variable's block; for every program.
  slices.Values at links, and what it hands back: the links of a slice, one by one.
  link.ends: its plain data, its cells, loads, stores, literals, ==, its parts in memory, an argument; in any translation that has it. (written by wip/mkstruct.py)
-/
import Derived.Test.YtlhnjaeocoafnaaQ31
import Derived.Test.YtlhnjaeocoafnaaQ12
import Derived.Maps.OwnIn
import Derived.Test.YtlhnjaeocoafnaaQ14
import Derived.Test.YtlhnjaeocoafnaaQ16
import Derived.Shelf.RegionOpen
import Derived.RangeFuncBox
import Derived.Test.YtlhnjaeocoafnaaQ07
import Derived.Test.YtlhnjaeocoafnaaQ08
namespace Go.Proofs.Ytlhnjaeocoafnaa
open Go.RowKit Go.Shelf
set_option maxRecDepth 100000

/-- Nothing has turned below one block number, and below another one nothing but one block. -/
structure But (s0 n₀ D : Nat) (W W' : World) : Prop where
  below : Below s0 W W'
  block : ∀ k, k < n₀ → k ≠ D → W'.heap[k]? = W.heap[k]?
section
variable {s0 n₀ D : Nat} {A W W' : World}
theorem But.refl (s0 n₀ D : Nat) (W : World) : But s0 n₀ D W W := ⟨Below.refl _ _, fun _ _ _ => rfl⟩
theorem But.trans (h : But s0 n₀ D A W) (k : But s0 n₀ D W W') : But s0 n₀ D A W' := ⟨h.below.trans k.below, fun j hj hn => (k.block j hj hn).trans (h.block j hj hn)⟩
theorem But.of_below (h : Below n₀ W W') (hs : s0 ≤ n₀) : But s0 n₀ D W W' := ⟨h.mono hs, fun k hk _ => h.block k hk⟩
theorem But.then (h : But s0 n₀ D A W) (g : Below W.heap.size W W') (hs : s0 ≤ n₀) (hn : n₀ ≤ W.heap.size) : But s0 n₀ D A W' := h.trans (But.of_below (g.mono hn) hs)
theorem But.setCell (h : But s0 n₀ D A W) (hD : s0 ≤ D) (v : Value) : But s0 n₀ D A (W.setCell ⟨D, 0, none⟩ v) :=
  h.trans ⟨(Below.refl _ _).setCell (p := ⟨D, 0, none⟩) hD v, fun _ _ hn => Below.heap_setCell _ _ _ _ hn⟩
theorem But.blk {k : Nat} {o : Obj} (h : But s0 n₀ D W W') (hk : k < n₀) (hn : k ≠ D) (e : W.heap[k]? = some o) : W'.heap[k]? = some o := (h.block k hk hn).trans e
theorem butK_t {A B C : World} (h : But s0 n₀ D A B) (k : But s0 n₀ D B C) : But s0 n₀ D A C := h.trans k
theorem butK_b {w : World} (hs : s0 ≤ n₀) (hn : n₀ ≤ w.heap.size) (W : World) (l : Nat) (o o' : Obj) (hl : w.heap.size ≤ l) (h : W.heap[l]? = some o) (h1 : o.isCells = false) (h2 : o.isWalk = false) : But s0 n₀ D W (W.putObj l o') :=
  But.of_below (belowK_b hn W l o o' hl h h1 h2) hs
theorem But.own {α : Type} {B : Nat} {W0 : World} (hn : n₀ ≤ B) (h0 : n₀ ≤ W0.heap.size) (hs : s0 ≤ n₀) : OwnFrom B (fun (_ : List α) W => But s0 n₀ D W0 W) := fun _ W W' row h hg hr =>
  h.trans ⟨⟨hg.os, hg.tape, hg.output, hg.size, fun k hk => hg.block k (Nat.lt_of_lt_of_le (Nat.lt_of_lt_of_le (Nat.lt_of_lt_of_le hk hs) h0) h.below.size) (fun e => by have := (hr k e.symm).1; omega)⟩, fun k hk _ => hg.block k (Nat.lt_of_lt_of_le (Nat.lt_of_lt_of_le hk h0) h.below.size) (fun e => by have := (hr k e.symm).1; omega)⟩
theorem grown_of_below (h : Below W.heap.size W W') : W.grownBy W' none := ⟨h.os, h.tape, h.output, h.size, fun k hk _ => h.block k hk⟩
/-- A variable's block lies between two rounds. -/
theorem blk_own {α : Type} {B : Nat} (f : List α → Obj) (hD : D < B) : OwnFrom B (fun s W => W.heap[D]? = some (f s)) := fun _ W W' row h hg hr =>
  (hg.block D (Array.getElem?_eq_some_iff.1 h).1 (fun e => by have := (hr D e.symm).1; omega)).trans h
theorem box_set {v : Value} {t : TypeId} (h : W.heap[D]? = some (.cells #[v] t (0, 0))) (v' : Value) : (W.setCell ⟨D, 0, none⟩ v').heap[D]? = some (.cells #[v'] t (0, 0)) := by
  obtain ⟨hlt, hk⟩ := Array.getElem?_eq_some_iff.1 h
  show (W.heap.modify D _)[D]? = _
  rw [Array.getElem?_eq_getElem (by rw [Array.size_modify]; exact hlt), Array.getElem_modify_self, hk]
  rfl
/-- A row of the call's own is cells. -/
theorem own_cellsR {α : Type} {E : Lie α} {base : Nat} {v : Value} {l : List α} (ho : OwnE E W base v l) {k : Nat} {o : Obj} (hk : v.ownBlock = some k) (hb : W.heap[k]? = some o) : o.isCells = true := by
  rcases ho.2 with ⟨rfl, _⟩ | ⟨g, cap, cur, rfl, _, hg, _⟩
  · cases hk
  · have e : g = k := by injection hk
    subst e
    rw [hg] at hb
    cases hb
    rfl
theorem own_own {α β : Type} {E : Lie β} {B base : Nat} (v : List α → Value) (f : List α → List β) : OwnFrom B (fun s W => OwnE E W base (v s) (f s)) := fun _ W W' row h hg hr =>
  ownE_block h fun b hb hk => hg.block b hb (fun e => by
    obtain ⟨_, o, ho, hc⟩ := hr b e.symm
    have := own_cellsR h hk ho
    rw [this] at hc; cases hc)
end
section
variable {P : Program} {ops : Array Oper} {rest : List Oper} {o : Oper} {a : Act} {Q : Exit → Act → World → Prop}
/-- append in a round. -/
theorem wpListIn_append_E {F : Fence} {nF : Nat} {α : Type} {E : Lie α} {T : TypeId} (K : Known P E T) (w : World) (hgd : o.guard = none) (s x : Operand)
    (ho : o.op = .call { callee := .builtin .append, args := #[s, x], argTypes := #[T, T] })
    (base : Nat) (v : Value) (k : List α) (hs : a.eval s = v) (hown : OwnE E w base v k) (vx : Value) (l : List α) (hx : a.eval x = vx) (hsl : SlE E w vx l)
    (hlen : k.length + l.length ≤ 1000000) (hbase : base ≤ w.heap.size)
    (h : ∀ v' w', OwnE E w' base v' (k ++ l) → Gr w v w' v' → wpListIn F nF P ops Q rest (a.put o.dst v') w') : wpListIn F nF P ops Q (o :: rest) a w := by
  refine wpListIn_plain hgd fun K' hK' => ?_
  obtain ⟨v', w', hr, h2, h3⟩ := run_append_E K w o.type base v k hown vx l hsl hlen hbase
  unfold Oper.wpIn
  refine ⟨?_, ?_⟩
  · simp [Oper.about, ho, resolve, Target.leads, Sem.run_pure]
  · rw [Oper.semAt_plain F _ _ (by rw [ho]; intro c hc'; cases hc')]
    simp [execOp, ho, resolve, invoke, builtin, hs, hx, hr, Result.andThen]
    exact hK' _ _ (h v' w' h2 h3)
end
end Go.Proofs.Ytlhnjaeocoafnaa
namespace Go.Proofs.Ytlhnjaeocoafnaa
open Go.RowKit Go.Shelf
set_option maxRecDepth 100000

attribute [local go_sem] Oper.semAt_some
@[local go_sem ↓] theorem semAt_run16 {P : Program} (l : Option Nat) (ρ : Operand → Value) (o : Oper) (w : World) (h : ∀ c, o.op ≠ .defer c) : (Oper.semAt l ρ o).run P w = (execOp ρ o).run P w := by rw [Oper.semAt_eq l ρ o h]

set_option maxRecDepth 100000 in
set_option maxHeartbeats 1000000 in
theorem slicesValues (p : Option Addr) (n c : Nat) (w : World) :
    Calls Try.prog 64 #[.slice p n c] w fun e w' => e = .returned (.func (.func 84) #[] #[.pointer (some ⟨w.heap.size, 0, none⟩)]) ∧ w' = w.alloc (.cells #[.slice p n c] 25) := by
  go_enter Try.func64, Try.ntmps64
  go_wp2_with fail
  go_ret
  exact ⟨rfl, rfl⟩
theorem enters_slicesValues : ∀ args w, (callFunc 64 args).run Try.prog w = .ok (.enter 64 args) w := entersE Try.func64 (by kernel_rfl) (by kernel_rfl)

set_option maxRecDepth 100000 in
set_option maxHeartbeats 8000000 in
theorem values_stops (d s0 n₀ D bx n c : Nat) (p : Option Addr) (L : List Lk) (w : World) (hs : s0 ≤ n₀) (hn₀ : n₀ ≤ w.heap.size) (hn : n ≤ 1000) (hl : L.length = n) (q1 : bx < n₀) (q2 : bx ≠ D)
    (t0 : w.heap[bx]? = some (.cells #[.slice p n c] 25 (0, 0))) (hS : SlE Elk w (.slice p n c) L) (hq : ∀ b o, p = some ⟨b, o, none⟩ → 0 < n → b < n₀ ∧ b ≠ D) :
    SeqStopsK Fence.wide d Try.prog 84 #[.pointer (some ⟨bx, 0, none⟩)] (fun x : Lk => #[Value.agg (lk x)]) (But s0 n₀ D) (fun ys => ys = L) (fun pre => pre <+: L) L.length w := by
  intro lo J Jx W hW hAJ _ hY hJ0
  have HT : Hid (∀ W', But s0 n₀ D w W' → W'.heap[bx]? = some (.cells #[.slice p n c] 25 (0, 0))) := fun W' g => g.blk q1 q2 t0
  have HX : Hid (∀ j, j < n → ∃ b o, p = some ⟨b, o, none⟩ ∧ ∀ W', But s0 n₀ D w W' → ldA W' (.pointer (some ⟨b, o + j * 67, none⟩)) 67 = some (lk (lkAt L j))) := fun j hj => by
    obtain ⟨b, o, e, _, x⟩ := lks_ptr hS (by omega)
    obtain ⟨h1, h2⟩ := hq b o e (by omega)
    exact ⟨b, o, e, fun W' g => lks_ld (rangeAt_block (g.block b h1 h2) x) (by omega)⟩
  have HG0 : Hid (But s0 n₀ D w W) := But.of_below (hW.mono hn₀) hs
  have HS : Hid (∀ W', But s0 n₀ D w W' → ∀ W2, Below W'.heap.size W' W2 → But s0 n₀ D w W2) := fun W' g W2 k => g.then k hs (Nat.le_trans hn₀ g.below.size)
  have HAJ : Hid (∀ pre W1 W', J pre W1 → Below W1.heap.size W1 W' → J pre W') := fun pre W1 W' hj g => hAJ pre W1 W' none hj (grown_of_below g) (fun r e => by cases e)
  have HY := Lib.hid hY
  have HJ0 := Lib.hid hJ0
  have HN := Lib.hid hn
  have HL := Lib.hid hl
  clear hY hJ0 hW hAJ t0 hS hq hs hn₀ hn hl q1 q2
  have e0 := (cell_of_box (HT.out _ HG0.out)).1
  refine callsIn_of_wp Try.func84 rfl trivial ?_ rfl
  simp only [Try.ntmps84, List.size_toArray, List.length_cons, List.length_nil, Nat.reduceAdd, Nat.reduceSub, Array.replicate_succ, Array.replicate_zero, List.push_toArray, List.append_toArray, List.nil_append, List.cons_append]
  gi_wp2
  clear e0
  gi_loopw [7] (fun u wr => ∃ (j : Nat), u = .int .i64 (j : Int) ∧ j ≤ n ∧ But s0 n₀ D w wr ∧ J (L.take j) wr) (fun u _ => n - (intOf u).toNat)
  case atStart => exact ⟨0, rfl, Nat.zero_le _, HG0.out, HJ0.out⟩
  case round =>
    obtain ⟨j, rfl, hj, hg, hjj⟩ := hrel
    have HG := Lib.hid hg
    have HJ := Lib.hid hjj
    clear hg hjj
    by_cases hlt : j < n
    · have d0 : decide ((j : Int) < (n : Int)) = true := decide_eq_true (by omega)
      have d0' : decide (j < n) = true := decide_eq_true hlt
      have i0 : (0 : Int) ≤ (j : Int) := by omega
      have i1 : (j : Int) < (n : Int) := by omega
      have u1 : (j : Int) + 1 < 10000 := by have := HN.out; omega
      have HLT := Lib.hid hlt
      obtain ⟨b, o, rfl, hx⟩ := HX.out j hlt
      have y1 := hx wr HG.out
      have HTk : Hid (L.take (j + 1) = L.take j ++ [lkAt L j]) := by
        show _ = _
        rw [lkAt_in (by have := HL.out; omega), List.take_add_one, List.getElem?_eq_getElem (by have := HL.out; omega)]
        rfl
      have HPf : Hid (L.take j ++ [lkAt L j] <+: L) := by show _ <+: _; rw [← HTk.out]; exact List.take_prefix _ _
      generalize lkAt L j = X at *
      have HG5 : Hid (But s0 n₀ D w (wr.alloc (.cells (lk X) 63))) := HS.out _ HG.out _ below1
      have HJ5 : J (L.take j) (wr.alloc (.cells (lk X) 63)) := HAJ.out _ _ _ HJ.out below1
      obtain ⟨fn, tmps, assign, body, hy, hR⟩ := HY.out _ X _ HJ5 (by rw [List.length_take, HL.out]; omega)
      have HRR := Lib.hid hR
      clear hR hx hlt hj HJ5
      gi_wp2
      refine ⟨fun h => (by cases h), RoundIn.mono HRR.out ?_⟩
      rintro e W3 (⟨rfl, hJ3, hk3⟩ | ⟨rfl, hJx3⟩)
      · have HG3 := Lib.hid (HG5.out.trans hk3)
        rw [← HTk.out] at hJ3
        have HJ3 := Lib.hid hJ3
        clear hJ3 hk3
        gi_wp2
        go_roundw
        case rel => exact ⟨j + 1, by go_num, HLT.out, HG3.out, HJ3.out⟩
        case measure => simp [intOf]; have := HLT.out; omega
      · have HJ3 := Lib.hid hJx3
        clear hJx3
        gi_wp2
        refine bodyPost_ret (results_none rfl _ _ _) rfl ?_
        exact ⟨⟨_, rfl⟩, .inr ⟨_, HPf.out, HJ3.out⟩⟩
    · obtain rfl : j = n := by omega
      have HF : Hid (L.take j = L) := List.take_of_length_le (by rw [HL.out]; exact Nat.le_refl _)
      clear hlt
      gi_wp2
      go_end0
      exact ⟨⟨_, rfl⟩, .inl ⟨_, HF.out, HJ.out⟩⟩
theorem enters_slicesValues1 : ∀ args w, (callFunc 84 args).run Try.prog w = .ok (.enter 84 args) w := entersE Try.func84 (by kernel_rfl) (by kernel_rfl)
end Go.Proofs.Ytlhnjaeocoafnaa
namespace Go.Proofs.Ytlhnjaeocoafnaa
open Go.RowKit
set_option maxRecDepth 100000

structure Ed where
  s : Ck
  t : Ck
theorem Ed.ext {x y : Ed} (h0 : x.s = y.s) (h1 : x.t = y.t) : x = y := by cases x; cases y; simp_all
instance : DecidableEq Ed := fun x y => decidable_of_iff (x.s = y.s ∧ x.t = y.t) ⟨fun h => Ed.ext h.1 h.2, fun h => by subst h; exact ⟨rfl, rfl⟩⟩
def edL (x : Ed) : List Value := (cc x.s).toList ++ ((cc x.t).toList)
def ed (x : Ed) : Array Value := (edL x).toArray
theorem ed_list (x : Ed) : (ed x).toList = edL x := rfl
theorem ed_len (x : Ed) : (edL x).length = 66 := by simp [edL, cc_size]
theorem ed_size (x : Ed) : (ed x).size = 66 := by rw [← Array.length_toList, ed_list, ed_len]
theorem ed_one (x : Ed) : ∀ v ∈ edL x, v.oneCell' = true := by
  intro v hv
  unfold edL at hv
  simp only [List.mem_append] at hv
  rcases hv with hv | hv
  · exact cc_one _ v (by rw [cc_list] at hv; exact hv)
  · exact cc_one _ v (by rw [cc_list] at hv; exact hv)
@[go_sem] theorem okA_ed (x : Ed) : okA 66 (.agg (ed x)) = true := by
  show ((ed x).size == 66 && (ed x).all (·.oneCell')) = true
  rw [show (ed x).all (·.oneCell') = true from all_one (ed_one x), ed_size]; rfl
def zed : Ed := ⟨zcc, zcc⟩
theorem zero_ed (w : World) : (zeroValue 101).run Try.prog w = .ok (.agg (ed zed)) w := by kernel_rfl
@[go_sem ↓] theorem load_ed (ρ : Operand → Value) (dst : Option Tmp) (x : Operand) (ty : TypeId) (pos : String) (after : Array Edge) (guard : Option (Nat × Bool)) (w : World) :
    (execOp ρ { dst, op := .load 101 x, type := ty, pos, after, guard }).run Try.prog w = ldOut (ldA w (ρ x) 66) w (opRest Try.prog ρ { dst, op := .load 101 x, type := ty, pos, after, guard } w) :=
  run_load_out Try.isAgg101 Try.sizeOf101 ρ dst x ty pos after guard w
@[go_sem ↓] theorem store_ed (ρ : Operand → Value) (dst : Option Tmp) (x y : Operand) (ty : TypeId) (pos : String) (after : Array Edge) (guard : Option (Nat × Bool)) (w : World) :
    (execOp ρ { dst, op := .store 101 x y, type := ty, pos, after, guard }).run Try.prog w = stOut (wrA w (ρ x) 66 && okA 66 (ρ y)) (stA w (ρ x) (ρ y)) (opRest Try.prog ρ { dst, op := .store 101 x y, type := ty, pos, after, guard } w) :=
  run_store_out Try.sizeOf101 ρ dst x y ty pos after guard w
@[go_sem ↓] theorem alloc_ed (ρ : Operand → Value) (dst : Option Tmp) (ty : TypeId) (pos : String) (after : Array Edge) (guard : Option (Nat × Bool)) (w : World) :
    (execOp ρ { dst, op := .alloc 101, type := ty, pos, after, guard }).run Try.prog w = .ok (.value (.pointer (some ⟨w.heap.size, 0, none⟩))) (w.alloc (.cells (ed zed) 101)) := by
  unfold execOp
  simp only [Instr.alloc, Sem.run_bind, zero_ed, Result.andThen_ok]
  rfl
def places_ed : List (Nat × Nat) := [(0, 33), (33, 33)]
theorem fields_ed : ∀ w : World, ((Try.prog.fieldsOf 101).mapM (m := Sem) fun f => do pure (f.offset, ← Go.sizeOf f.type)).run Try.prog w = .ok places_ed.toArray w := fun _ => by kernel_rfl
theorem under_ed : Try.prog.underlying 101 = some (.struct (Try.prog.fieldsOf 101)) := by kernel_rfl
theorem flds_ed : (Try.prog.fieldsOf 101).toList.map (fun f => (f.name, f.type, f.offset)) = [("s", 32, 0), ("t", 32, 33)] := by kernel_rfl
@[go_sem ↓] theorem build_ed (ρ : Operand → Value) (dst : Option Tmp) (p : Nat × Operand) (ps : List (Nat × Operand)) (ty : TypeId) (pos : String) (after : Array Edge) (guard : Option (Nat × Bool)) (w : World) :
    (execOp ρ { dst, op := .build 101 (p :: ps).toArray, type := ty, pos, after, guard }).run Try.prog w = vOutE ((fillA places_ed (ed zed) ((p.1, ρ p.2) :: ps.map fun p => (p.1, ρ p.2))).map .agg) w (opRest Try.prog ρ { dst, op := .build 101 (p :: ps).toArray, type := ty, pos, after, guard } w) :=
  build_out zero_ed under_ed fields_ed ρ dst (p :: ps).toArray ty pos after guard w
@[go_sem ↓] theorem build0_ed (ρ : Operand → Value) (dst : Option Tmp) (ty : TypeId) (pos : String) (after : Array Edge) (guard : Option (Nat × Bool)) (w : World) :
    (execOp ρ { dst, op := .build 101 #[], type := ty, pos, after, guard }).run Try.prog w = .ok (.value (.agg (ed zed))) w :=
  build_out zero_ed under_ed fields_ed ρ dst #[] ty pos after guard w
attribute [go_sem] places_ed ed_size
theorem ed_at_s (x : Ed) : edL x = ([]) ++ ((cc x.s).toList ++ ((cc x.t).toList)) ∧ ([] : List Value).length = 0 := by
  constructor
  · unfold edL; simp
  · rfl
theorem ed_get_s (x : Ed) : (ed x).extract 0 (0 + 33) = cc x.s := extract_mid (ed_at_s x).1 (ed_at_s x).2 (cc_size _)
theorem ed_rd_s {w : World} {b off : Nat} {x : Ed} (h : w.rangeAt b off (edL x)) : ldA w (.pointer (some ⟨b, off + 0, none⟩)) 33 = some (cc x.s) := range_ldA h (ed_at_s x).1 (ed_at_s x).2 (cc_size _)
theorem ed_rd0_s {w : World} {g : Nat} {t : TypeId} {fr : Nat × Nat} {x : Ed} (h : w.heap[g]? = some (.cells (ed x) t fr)) : ldA w (.pointer (some ⟨g, 0, none⟩)) 33 = some (cc x.s) := by have := ed_rd_s (x := x) (range_block h); rwa [Nat.zero_add] at this
@[go_sem] theorem ed_lda_s (w : World) (t : TypeId) (b : Nat) (x : Ed) (hb : b = w.heap.size) : ldA (w.alloc (.cells (ed x) t)) (.pointer (some ⟨b, 0, none⟩)) 33 = some (cc x.s) := by subst hb; exact ed_rd0_s (heap_alloc_last w _)
theorem ed_put_s (x : Ed) (y : Ck) : putSeg (ed x) 0 (cc y) = ed { x with s := y } := by
  rw [putSeg_mid (c := ed x) (ed_at_s x).1 (ed_at_s x).2 (by simp [cc_size])]
  simp [ed, edL]
theorem ed_at_t (x : Ed) : edL x = ((cc x.s).toList) ++ ((cc x.t).toList ++ ([])) ∧ ((cc x.s).toList : List Value).length = 33 := by
  constructor
  · unfold edL; simp
  · simp [cc_size]
theorem ed_get_t (x : Ed) : (ed x).extract 33 (33 + 33) = cc x.t := extract_mid (ed_at_t x).1 (ed_at_t x).2 (cc_size _)
theorem ed_rd_t {w : World} {b off : Nat} {x : Ed} (h : w.rangeAt b off (edL x)) : ldA w (.pointer (some ⟨b, off + 33, none⟩)) 33 = some (cc x.t) := range_ldA h (ed_at_t x).1 (ed_at_t x).2 (cc_size _)
theorem ed_rd0_t {w : World} {g : Nat} {t : TypeId} {fr : Nat × Nat} {x : Ed} (h : w.heap[g]? = some (.cells (ed x) t fr)) : ldA w (.pointer (some ⟨g, 33, none⟩)) 33 = some (cc x.t) := by have := ed_rd_t (x := x) (range_block h); rwa [Nat.zero_add] at this
@[go_sem] theorem ed_lda_t (w : World) (t : TypeId) (b : Nat) (x : Ed) (hb : b = w.heap.size) : ldA (w.alloc (.cells (ed x) t)) (.pointer (some ⟨b, 33, none⟩)) 33 = some (cc x.t) := by subst hb; exact ed_rd0_t (heap_alloc_last w _)
theorem ed_put_t (x : Ed) (y : Ck) : putSeg (ed x) 33 (cc y) = ed { x with t := y } := by
  rw [putSeg_mid (c := ed x) (ed_at_t x).1 (ed_at_t x).2 (by simp [cc_size])]
  simp [ed, edL]
theorem ed_rg_s {w : World} {b off : Nat} {x : Ed} (h : w.rangeAt b off (edL x)) : w.rangeAt b (off + 0) (ccL x.s) := by
  rw [← cc_list]; exact range_part h (ed_at_s x).1 (ed_at_s x).2
theorem ed_in_s (x : Ed) (o : Nat) (r : Array Value) (h : o + r.size ≤ 33) : putSeg (ed x) (0 + o) r = putSeg (ed x) 0 (putSeg (cc x.s) o r) := putSeg_in (c := ed x) (ed_at_s x).1 (ed_at_s x).2 (by rw [cc_size]; exact h)
theorem ed_rd_s_epoch {w : World} {b off : Nat} {x : Ed} (h : w.rangeAt b off (edL x)) : w.cell? ⟨b, off + 0, none⟩ = some (num x.s.epoch) := cc_rd_epoch (ed_rg_s h)
theorem ed_rd0_s_epoch {w : World} {g : Nat} {t : TypeId} {fr : Nat × Nat} {x : Ed} (h : w.heap[g]? = some (.cells (ed x) t fr)) : w.cell? ⟨g, 0, none⟩ = some (num x.s.epoch) := by have := ed_rd_s_epoch (x := x) (range_block h); rwa [Nat.zero_add] at this
theorem ed_get_s_epoch (x : Ed) : (ed x)[0]? = some (num x.s.epoch) := by have := ed_rd_s_epoch (x := x) (range_block (heap_alloc_last (default : World) (.cells (ed x) 0))); rw [cell_of_row _ _ _ _ _ _ (heap_alloc_last _ _), Nat.zero_add] at this; exact this
@[go_sem] theorem ed_gi_s_epoch (x : Ed) (h : 0 < (ed x).size) : (ed x)[0]'h = num x.s.epoch := by have := ed_get_s_epoch x; rw [Array.getElem?_eq_getElem h] at this; exact Option.some.inj this
theorem ed_put_s_epoch (x : Ed) (y : UInt64) : putSeg (ed x) 0 #[num y] = ed { x with s := { x.s with epoch := y } } := by
  rw [show 0 = 0 + 0 from rfl, ed_in_s x 0 _ (by simp), cc_put_epoch, ed_put_s]
attribute [go_sem] ed_put_s_epoch
@[go_sem] theorem ed_set_s_epoch (x : Ed) (y : UInt64) : (ed x).setIfInBounds 0 (num y) = ed { x with s := { x.s with epoch := y } } := by
  rw [setIfInBounds_seg (by rw [ed_size]; decide)]; exact ed_put_s_epoch x y
@[go_sem] theorem ed_setn_s_epoch (x : Ed) (y : UInt64) : (ed x).setIfInBounds 0 (.int .u64 (y.toNat : Int)) = ed { x with s := { x.s with epoch := y } } := by
  rw [setIfInBounds_seg (by rw [ed_size]; decide)]; exact ed_put_s_epoch x y
theorem ed_rd_s_root {w : World} {b off : Nat} {x : Ed} (h : w.rangeAt b off (edL x)) : ldA w (.pointer (some ⟨b, off + 1, none⟩)) 32 = some (rc x.s.root) := cc_rd_root (ed_rg_s h)
theorem ed_rd0_s_root {w : World} {g : Nat} {t : TypeId} {fr : Nat × Nat} {x : Ed} (h : w.heap[g]? = some (.cells (ed x) t fr)) : ldA w (.pointer (some ⟨g, 1, none⟩)) 32 = some (rc x.s.root) := by have := ed_rd_s_root (x := x) (range_block h); rwa [Nat.zero_add] at this
@[go_sem] theorem ed_lda_s_root (w : World) (t : TypeId) (b : Nat) (x : Ed) (hb : b = w.heap.size) : ldA (w.alloc (.cells (ed x) t)) (.pointer (some ⟨b, 1, none⟩)) 32 = some (rc x.s.root) := by subst hb; exact ed_rd0_s_root (heap_alloc_last w _)
theorem ed_put_s_root (x : Ed) (y : Rt) : putSeg (ed x) 1 (rc y) = ed { x with s := { x.s with root := y } } := by
  rw [show 1 = 0 + 1 from rfl, ed_in_s x 1 _ (by rw [rc_size]; decide), cc_put_root, ed_put_s]
attribute [go_sem] ed_put_s_root
theorem ed_rg_t {w : World} {b off : Nat} {x : Ed} (h : w.rangeAt b off (edL x)) : w.rangeAt b (off + 33) (ccL x.t) := by
  rw [← cc_list]; exact range_part h (ed_at_t x).1 (ed_at_t x).2
theorem ed_in_t (x : Ed) (o : Nat) (r : Array Value) (h : o + r.size ≤ 33) : putSeg (ed x) (33 + o) r = putSeg (ed x) 33 (putSeg (cc x.t) o r) := putSeg_in (c := ed x) (ed_at_t x).1 (ed_at_t x).2 (by rw [cc_size]; exact h)
theorem ed_rd_t_epoch {w : World} {b off : Nat} {x : Ed} (h : w.rangeAt b off (edL x)) : w.cell? ⟨b, off + 33, none⟩ = some (num x.t.epoch) := cc_rd_epoch (ed_rg_t h)
theorem ed_rd0_t_epoch {w : World} {g : Nat} {t : TypeId} {fr : Nat × Nat} {x : Ed} (h : w.heap[g]? = some (.cells (ed x) t fr)) : w.cell? ⟨g, 33, none⟩ = some (num x.t.epoch) := by have := ed_rd_t_epoch (x := x) (range_block h); rwa [Nat.zero_add] at this
theorem ed_get_t_epoch (x : Ed) : (ed x)[33]? = some (num x.t.epoch) := by have := ed_rd_t_epoch (x := x) (range_block (heap_alloc_last (default : World) (.cells (ed x) 0))); rw [cell_of_row _ _ _ _ _ _ (heap_alloc_last _ _), Nat.zero_add] at this; exact this
@[go_sem] theorem ed_gi_t_epoch (x : Ed) (h : 33 < (ed x).size) : (ed x)[33]'h = num x.t.epoch := by have := ed_get_t_epoch x; rw [Array.getElem?_eq_getElem h] at this; exact Option.some.inj this
theorem ed_put_t_epoch (x : Ed) (y : UInt64) : putSeg (ed x) 33 #[num y] = ed { x with t := { x.t with epoch := y } } := by
  rw [show 33 = 33 + 0 from rfl, ed_in_t x 0 _ (by simp), cc_put_epoch, ed_put_t]
attribute [go_sem] ed_put_t_epoch
@[go_sem] theorem ed_set_t_epoch (x : Ed) (y : UInt64) : (ed x).setIfInBounds 33 (num y) = ed { x with t := { x.t with epoch := y } } := by
  rw [setIfInBounds_seg (by rw [ed_size]; decide)]; exact ed_put_t_epoch x y
@[go_sem] theorem ed_setn_t_epoch (x : Ed) (y : UInt64) : (ed x).setIfInBounds 33 (.int .u64 (y.toNat : Int)) = ed { x with t := { x.t with epoch := y } } := by
  rw [setIfInBounds_seg (by rw [ed_size]; decide)]; exact ed_put_t_epoch x y
theorem ed_rd_t_root {w : World} {b off : Nat} {x : Ed} (h : w.rangeAt b off (edL x)) : ldA w (.pointer (some ⟨b, off + 34, none⟩)) 32 = some (rc x.t.root) := cc_rd_root (ed_rg_t h)
theorem ed_rd0_t_root {w : World} {g : Nat} {t : TypeId} {fr : Nat × Nat} {x : Ed} (h : w.heap[g]? = some (.cells (ed x) t fr)) : ldA w (.pointer (some ⟨g, 34, none⟩)) 32 = some (rc x.t.root) := by have := ed_rd_t_root (x := x) (range_block h); rwa [Nat.zero_add] at this
@[go_sem] theorem ed_lda_t_root (w : World) (t : TypeId) (b : Nat) (x : Ed) (hb : b = w.heap.size) : ldA (w.alloc (.cells (ed x) t)) (.pointer (some ⟨b, 34, none⟩)) 32 = some (rc x.t.root) := by subst hb; exact ed_rd0_t_root (heap_alloc_last w _)
theorem ed_put_t_root (x : Ed) (y : Rt) : putSeg (ed x) 34 (rc y) = ed { x with t := { x.t with root := y } } := by
  rw [show 34 = 33 + 1 from rfl, ed_in_t x 1 _ (by rw [rc_size]; decide), cc_put_root, ed_put_t]
attribute [go_sem] ed_put_t_root
attribute [go_sem] ed_put_s ed_put_t
theorem part_ed (c : Array Value) (o : Nat) (r : Ed) (h : c.extract o (o + 66) = ed r) (w : World) : (part 101 c o).run Try.prog w = .ok (.agg (ed r)) w := by
  rw [part_agg (P := Try.prog) Try.isAgg101 Try.sizeOf101, h]
theorem eq_edN (d : Nat) (x y : Ed) (w : World) : (Op.equalIn (d + 4) 101 (.agg (ed x)) (.agg (ed y))).run Try.prog w = .ok (decide (x = y)) w := by
  rw [show d + 4 = (d + 3) + 1 from rfl, run_equalIn_struct w (d + 3) _ _ _ under_ed (by kernel_rfl)]
  rw [eqF_cons flds_ed (by decide) (part_cc _ _ _ (ed_get_s x) w) (part_cc _ _ _ (ed_get_s y) w) (eq_ccN (d + 0) _ _ w)
    (fun _ h1 => eqF_cons h1 (by decide) (part_cc _ _ _ (ed_get_t x) w) (part_cc _ _ _ (ed_get_t y) w) (eq_ccN (d + 0) _ _ w)
    (fun _ hn => eqF_nil hn))]
  congr 1
  rw [Bool.eq_iff_iff]
  simp only [Bool.and_eq_true, decide_eq_true_iff, and_true]
  exact ⟨fun h => Ed.ext h.1 h.2, fun h => by subst h; exact ⟨rfl, rfl⟩⟩
@[go_sem ↓] theorem eq_ed (x y : Ed) (w : World) : (Op.equalIn 10000 101 (.agg (ed x)) (.agg (ed y))).run Try.prog w = .ok (decide (x = y)) w := eq_edN 9996 x y w
theorem cellsOf_ed : Try.prog.cellsOf 101 = 66 := by kernel_rfl
end Go.Proofs.Ytlhnjaeocoafnaa
