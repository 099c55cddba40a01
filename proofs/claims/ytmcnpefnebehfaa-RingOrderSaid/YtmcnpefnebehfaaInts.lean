/-
  Integers in memory: a slice that reads as a list of ints, a row of the call's own, make, append, cuts, an argument; in any translation that has the type.
-/
import Derived.Test.YtmcnpefnebehfaaAgg
import Derived.Test.YtmcnpefnebehfaaLex
import Derived.Test.YtmcnpefnebehfaaBase
import Derived.Test.YtmcnpefnebehfaaRows
import Derived.Outline
import Derived.Deep.QuietTactic
import Derived.BigQuiet
import Derived.Lib.Hide
import Derived.ChangeKeysEq
import Derived.WideKeyArr2
import Derived.Carry
import Derived.Deep.Slices
import Derived.OpenShut
import Derived.ChangeMaps5
import Derived.Lib.LaidU8
import Derived.Maps.AppendAt
import Derived.Deep.RegionLaw
import Derived.Laws.AppendOwnNone
import Derived.Laws.BytesArg
import Derived.Laws.MakeOwn
import Derived.Laws.CopyOwn
namespace Go.Proofs.Ytmcnpefnebehfaa
open Go.RowKit

/-- The number at a place. -/
def it (l : List Int) (i : Nat) : Int := l.getD i 0
def iv (l : List Int) : List Value := l.map fun n => .int .i64 n
theorem it_in (l : List Int) {i : Nat} (h : i < l.length) : it l i = l[i] := by simp [it, h]
theorem iv_length (l : List Int) : (iv l).length = l.length := by simp [iv]
theorem iv_get (l : List Int) (i : Nat) (h : i < l.length) : (iv l)[i]? = some (.int .i64 (it l i)) := by
  simp [iv, it, h]
theorem iv_append (k l : List Int) : iv (k ++ l) = iv k ++ iv l := by simp [iv]
theorem iv_one (l : List Int) : ∀ u ∈ iv l, u.oneCell' = true := fun u h => by
  obtain ⟨b, _, rfl⟩ := List.mem_map.1 h
  rfl
theorem it_drop (l : List Int) (n i : Nat) : it (l.drop n) i = it l (n + i) := by simp [it]
theorem it_ext {k l : List Int} (hl : k.length = l.length) (h : ∀ i, i < l.length → it k i = it l i) : k = l := by
  apply List.ext_getElem hl
  intro i h1 h2
  have := h i h2
  rwa [it_in _ h1, it_in _ h2] at this
theorem take_snocI (l : List Int) (j : Nat) (h : j < l.length) : l.take (j + 1) = l.take j ++ [it l j] := by
  rw [List.take_succ_eq_append_getElem h, it_in l h]

theorem Try.infoInt : (Try.prog.info? 3).map (fun i => (i.zero, i.size, i.bytes)) = some (some (.int .i64 0), 1, 8) := by kernel_rfl
theorem Try.sizeInt : (Try.prog.info? 3).map (·.size) = some 1 := by kernel_rfl

/-- A slice that reads as these numbers. -/
def SlI (w : World) (v : Value) (l : List Int) : Prop :=
  ∃ p cap, v = .slice p l.length cap ∧ l.length ≤ cap ∧ (l = [] ∨ ∃ b off, p = some ⟨b, off, none⟩ ∧ b < w.heap.size ∧ ∀ i, i < l.length → w.cell? ⟨b, off + i, none⟩ = some (.int .i64 (it l i)))
theorem slI_nil (w : World) (p : Option Addr) (cap : Nat) : SlI w (.slice p 0 cap) [] := ⟨p, cap, rfl, Nat.zero_le _, .inl rfl⟩
theorem slI_keep {w w' : World} (g : Below w.heap.size w w') {v : Value} {l : List Int} (h : SlI w v l) : SlI w' v l := by
  obtain ⟨p, cap, rfl, hc, h⟩ := h
  refine ⟨p, cap, rfl, hc, h.imp id ?_⟩
  rintro ⟨b, off, rfl, hb, h⟩
  exact ⟨b, off, rfl, Nat.lt_of_lt_of_le hb g.size, fun i hi => by rw [g.cell (p := ⟨b, off + i, none⟩) hb]; exact h i hi⟩
theorem slI_ne {w : World} {v : Value} {l : List Int} (h : SlI w v l) (hn : 0 < l.length) : ∃ b off cap, v = .slice (some ⟨b, off, none⟩) l.length cap ∧ l.length ≤ cap ∧ b < w.heap.size ∧ ∀ i, i < l.length → w.cell? ⟨b, off + i, none⟩ = some (.int .i64 (it l i)) := by
  obtain ⟨p, cap, rfl, hc, h⟩ := h
  obtain ⟨b, off, rfl, hb, h⟩ := h.resolve_left (fun e => by rw [e] at hn; simp at hn)
  exact ⟨b, off, cap, rfl, hc, hb, h⟩
theorem slI_shape {w : World} {v : Value} {l : List Int} (h : SlI w v l) : ∃ p cap, v = .slice p l.length cap ∧ l.length ≤ cap := by
  obtain ⟨p, cap, rfl, hc, _⟩ := h
  exact ⟨p, cap, rfl, hc⟩
/-- Where a slice that is not empty lies, apart from any block whose number is given. -/
theorem slI_block {w w' : World} {v : Value} {l : List Int} (h : SlI w v l) (hs : w.heap.size ≤ w'.heap.size) (hb : ∀ b, b < w.heap.size → v.ownBlock = some b → w'.heap[b]? = w.heap[b]?) : SlI w' v l := by
  obtain ⟨p, cap, rfl, hc, h⟩ := h
  refine ⟨p, cap, rfl, hc, h.imp id ?_⟩
  rintro ⟨b, off, rfl, hlt, h⟩
  exact ⟨b, off, rfl, Nat.lt_of_lt_of_le hlt hs, fun i hi => by rw [World.cell?_of_block (a := ⟨b, off + i, none⟩) (hb b hlt rfl)]; exact h i hi⟩

/-- A row of numbers of the call's own, from block 'base' on. -/
def OwnI (w : World) (base : Nat) (v : Value) (l : List Int) : Prop := w.ownsRow base 3 1 v l.length (iv l)
theorem ownI_nil (w : World) (base : Nat) : OwnI w base (.slice none 0 0) [] := World.ownsRow_nil _ _ _ _
theorem ownI_slI {w : World} {base : Nat} {v : Value} {l : List Int} (h : OwnI w base v l) : SlI w v l := by
  rcases h.2 with ⟨rfl, h0⟩ | ⟨g, cap, cur, rfl, hg1, hg2, hn1, hn2, hn3, hn4⟩
  · have : l = [] := List.length_eq_zero_iff.1 h0
    subst this
    exact slI_nil _ _ _
  · refine ⟨_, _, rfl, hn1, .inr ⟨g, 0, rfl, (Array.getElem?_eq_some_iff.1 hg2).1, fun i hi => ?_⟩⟩
    rw [Nat.zero_add, cell_of_row w g i cur _ _ hg2]
    have e : (cur.toList.take (l.length * 1))[i]? = (iv l)[i]? := by rw [hn4]
    rw [List.getElem?_take, if_pos (by omega), iv_get l i hi] at e
    simpa using e
theorem ownI_base {w : World} {base base' : Nat} {v : Value} {l : List Int} (h : OwnI w base v l) (hb : base' ≤ base) : OwnI w base' v l := by
  refine ⟨h.1, h.2.imp id ?_⟩
  rintro ⟨g, cap, cur, h1, h2, h3⟩
  exact ⟨g, cap, cur, h1, Nat.le_trans hb h2, h3⟩
theorem ownI_keep {w w' : World} (g : Below w.heap.size w w') {base : Nat} {v : Value} {l : List Int} (h : OwnI w base v l) : OwnI w' base v l := by
  refine ⟨h.1, h.2.imp id ?_⟩
  rintro ⟨q, cap, cur, h1, h2, h3, h4⟩
  exact ⟨q, cap, cur, h1, h2, by rw [g.block q (Array.getElem?_eq_some_iff.1 h3).1]; exact h3, h4⟩
/-- Kept where the row's own block is as it was. -/
theorem ownI_block {w w' : World} {base : Nat} {v : Value} {l : List Int} (h : OwnI w base v l) (hb : ∀ b, b < w.heap.size → v.ownBlock = some b → w'.heap[b]? = w.heap[b]?) : OwnI w' base v l := by
  refine ⟨h.1, h.2.imp id ?_⟩
  rintro ⟨q, cap, cur, rfl, h2, h3, h4⟩
  exact ⟨q, cap, cur, rfl, h2, by rw [hb q (Array.getElem?_eq_some_iff.1 h3).1 rfl]; exact h3, h4⟩
theorem ownI_lit (w : World) (l : List Int) (hl : l.length ≤ maxLen) (c : Array Value) (hc : c = (iv l).toArray) (b : Nat) (hb : b = w.heap.size) : OwnI (w.alloc (.cells c 3)) b (.slice (some ⟨b, 0, none⟩) l.length l.length) l := by
  subst hb hc
  refine ⟨by simp [iv_length], .inr ⟨w.heap.size, l.length, (iv l).toArray, rfl, Nat.le_refl _, heap_alloc_last w _, Nat.le_refl _, hl, by simp [iv_length], by rw [Nat.mul_one]; exact List.take_of_length_le (by rw [iv_length]; exact Nat.le_refl _)⟩⟩
theorem ownI_alloc {w : World} {base : Nat} {v : Value} {l : List Int} (h : OwnI w base v l) (o : Obj) : OwnI (w.alloc o) base v l := World.ownsRow.alloc h o
theorem ownI_ne {w : World} {base : Nat} {v : Value} {l : List Int} (h : OwnI w base v l) {b : Nat} (hb : w.heap.size ≤ b) : v.ownBlock ≠ some b := fun e => by
  have := (World.ownsRow.lt h b e).2
  omega
theorem ownI_drew {w : World} {base : Nat} {v : Value} {l : List Int} (h : OwnI w base v l) : OwnI w.drew base v l := h
theorem slI_lit (w : World) (l : List Int) (t : TypeId) (c : Array Value) (b : Nat) (hb : b = w.heap.size) (hc : c = (iv l).toArray) : SlI (w.alloc (.cells c t)) (.slice (some ⟨b, 0, none⟩) l.length l.length) l := by
  subst hb hc
  refine ⟨_, _, rfl, Nat.le_refl _, .inr ⟨w.heap.size, 0, rfl, by simp, fun i hi => ?_⟩⟩
  rw [Nat.zero_add, cell_of_row _ _ i _ _ _ (heap_alloc_last w _), List.getElem?_toArray]
  exact iv_get l i hi
/-- From one row to the next: the row's own block, or a new one; no other block has turned. -/
def GrI (w : World) (v : Value) (w' : World) (v' : Value) : Prop := w.grownBy w' v.ownBlock ∧ (v'.ownBlock = v.ownBlock ∨ ∀ k, v'.ownBlock = some k → w.heap.size ≤ k)
theorem GrI.refl (w : World) (v : Value) : GrI w v w v := ⟨⟨rfl, rfl, rfl, Nat.le_refl _, fun _ _ _ => rfl⟩, .inl rfl⟩
theorem GrI.trans {w w1 w2 : World} {v v1 v2 : Value} (h : GrI w v w1 v1) (k : GrI w1 v1 w2 v2) : GrI w v w2 v2 := by
  obtain ⟨hg, ho⟩ := h
  obtain ⟨kg, ko⟩ := k
  have hs := hg.size
  refine ⟨⟨kg.os.trans hg.os, kg.tape.trans hg.tape, kg.output.trans hg.output, Nat.le_trans hs kg.size, fun q hq hne => ?_⟩, ?_⟩
  · rw [kg.block q (by omega) (fun e => ?_), hg.block q hq hne]
    rcases ho with ho | ho
    · exact hne (by rw [e, ho])
    · have := ho q e.symm; omega
  · rcases ko with ko | ko
    · rcases ho with ho | ho
      · exact .inl (ko.trans ho)
      · exact .inr fun q hq => ho q (by rw [← ko]; exact hq)
    · exact .inr fun q hq => Nat.le_trans hs (ko q hq)
theorem GrI.below {w w' : World} {v v' : Value} (h : GrI w v w' v') {base : Nat} (hb : base ≤ w.heap.size) (hv : ∀ k, v.ownBlock = some k → base ≤ k) : Below base w w' := (Below.refl base w).grown h.1 hb hv
theorem GrI.own {w w' : World} {v v' : Value} (h : GrI w v w' v') {base : Nat} {l : List Int} (ho : OwnI w base v l) (hb : base ≤ w.heap.size) : Below base w w' := h.below hb (fun k hk => (World.ownsRow.lt ho k hk).1)
theorem GrI.drew {w w' : World} {v v' : Value} (h : GrI w.drew v w' v') : GrI w v w' v' := ⟨⟨h.1.os, h.1.tape, h.1.output, h.1.size, h.1.block⟩, h.2⟩
theorem GrI.alloc {w : World} {o : Obj} {w' : World} {v v' : Value} (h : GrI (w.alloc o) v w' v') : GrI w v w' v' := by
  obtain ⟨hg, ho⟩ := h
  have hs := hg.size
  have e : (w.alloc o).heap.size = w.heap.size + 1 := by simp
  refine ⟨⟨hg.os, hg.tape, hg.output, by omega, fun q hq hne => ?_⟩, ho.imp id fun h k hk => by have := h k hk; omega⟩
  rw [hg.block q (by omega) hne, Below.heap_alloc w o q hq]
/-- A block other than the row's, kept. -/
theorem GrI.block {w w' : World} {v v' : Value} (h : GrI w v w' v') {b : Nat} (hb : b < w.heap.size) (hne : v.ownBlock ≠ some b) : w'.heap[b]? = w.heap[b]? := h.1.block b hb (fun e => hne e.symm)
theorem GrI.heap {w w' : World} {v v' : Value} (h : GrI w v w' v') {g : Nat} {ob : Obj} (hg : w.heap[g]? = some ob) (hne : v.ownBlock ≠ some g) : w'.heap[g]? = some ob := by
  rw [h.block (Array.getElem?_eq_some_iff.1 hg).1 hne]; exact hg
theorem heap_keepA {w : World} {o ob : Obj} {g : Nat} (h : w.heap[g]? = some ob) : (w.alloc o).heap[g]? = some ob := by
  rw [Below.heap_alloc w o g (Array.getElem?_eq_some_iff.1 h).1]; exact h

theorem slI_cells {w : World} {b off : Nat} {l : List Int} (h : ∀ i, i < l.length → w.cell? ⟨b, off + i, none⟩ = some (.int .i64 (it l i))) : ∀ (j : Nat) (u : Value), (iv l)[j]? = some u → w.cell? ((⟨b, off, none⟩ : Addr).add j) = some u := fun j u hu => by
  have hj : j < l.length := by have := (List.getElem?_eq_some_iff.1 hu).1; rwa [iv_length] at this
  rw [Addr.add_mid, h j hj, ← hu, iv_get l j hj]
theorem run_append_noneI {P : Program} {w : World} (base : Nat) (t ty e : TypeId) (i : TypeInfo) (size : Nat) (ht : P.underlying t = some (.slice e)) (hi : P.info? e = some i)
    (v : Value) (n : Nat) (xs : List Value) (hown : w.ownsRow base e size v n xs) (p : Option Addr) (c : Nat) :
    (Builtin.append_ #[t, t] ty #[v, .slice p 0 c]).run P w = .ok v w := by
  rcases hown.2 with ⟨rfl, rfl⟩ | ⟨g, cap, cur, rfl, _, _, hnc, _⟩
  · cases p <;> simp [Builtin.append_, run_underlying ht, sizeOf, typeInfo, hi, Builtin.lenOf, Builtin.firstCells, loadCells, loadCellsFrom]
  · cases p <;> simp [Builtin.append_, run_underlying ht, sizeOf, typeInfo, hi, Builtin.lenOf, Builtin.firstCells, loadCells, loadCellsFrom, hnc, storeCells]
/-- append, run: onto a row of the call's own, of numbers wherever they lie. -/
theorem run_append_ints (w : World) (ty : TypeId) (base : Nat) (v : Value) (k : List Int) (hown : OwnI w base v k) (vx : Value) (l : List Int) (hsl : SlI w vx l) (hlen : k.length + l.length ≤ 1000000) (hbase : base ≤ w.heap.size) :
    ∃ v' w', (Builtin.append_ #[22, 22] ty #[v, vx]).run Try.prog w = .ok v' w' ∧ OwnI w' base v' (k ++ l) ∧ GrI w v w' v' := by
  obtain ⟨i, hi, hz0, hz1, hz2⟩ := info_parts Try.infoInt
  by_cases hn : l = []
  · subst hn
    obtain ⟨p, cap, rfl, _⟩ := hsl
    exact ⟨v, w, run_append_noneI (P := Try.prog) (w := w) base 22 ty 3 i 1 Try.underlying22 hi v k.length _ hown p cap, by simpa using hown, GrI.refl _ _⟩
  · obtain ⟨b, off, cap, rfl, _, _, hc⟩ := slI_ne hsl (List.length_pos_iff.2 hn)
    obtain ⟨v', w', h1, h2, h3, _, h5⟩ := run_append_own_at (P := Try.prog) w base 22 ty 3 i (.int .i64 0) 1 8 Try.underlying22 hi hz0 hz1 hz2 rfl (by decide) v k.length (iv k) hown ⟨b, off, none⟩ l.length cap (iv l) (by simp [iv_length]) (slI_cells hc) (iv_one l) (by unfold maxLen; omega) (by omega) hbase
    refine ⟨v', w', h1, ?_, h3, h5.imp id fun e q hq => ?_⟩
    · unfold OwnI; rw [List.length_append, iv_append]; exact h2
    · rw [e] at hq; injection hq with hq; omega
theorem wp_append_ints (w : World) {o : Oper} {a : Act} {K : Act → World → Prop} {Q : Exit → Act → World → Prop} (s x : Operand)
    (ho : o.op = .call { callee := .builtin .append, args := #[s, x], argTypes := #[22, 22] })
    (base : Nat) (v : Value) (k : List Int) (hs : a.eval s = v) (hown : OwnI w base v k) (vx : Value) (l : List Int) (hx : a.eval x = vx) (hsl : SlI w vx l)
    (hlen : k.length + l.length ≤ 1000000) (hbase : base ≤ w.heap.size)
    (h : ∀ v' w', OwnI w' base v' (k ++ l) → GrI w v w' v' → K (a.put o.dst v') w') : o.wp Try.prog a w K Q := by
  obtain ⟨v', w', hr, h2, h3⟩ := run_append_ints w o.type base v k hown vx l hsl hlen hbase
  unfold Oper.wp execOp
  simp only [ho, resolve, invoke, builtin, Sem.run_bind, Sem.run_pure, Result.andThen_ok, List.map_toArray, List.map_cons, List.map_nil, hs, hx, hr]
  exact h v' w' h2 h3
/-- append(s, l...), s the call's own, l numbers wherever they lie: at a plain region's list. -/
theorem wpList_append_ints (w : World) {ops : Array Oper} {rest : List Oper} {o : Oper} {a : Act} {Q : Exit → Act → World → Prop} (hgd : o.guard = none) (s x : Operand)
    (ho : o.op = .call { callee := .builtin .append, args := #[s, x], argTypes := #[22, 22] })
    (base : Nat) (v : Value) (k : List Int) (hs : a.eval s = v) (hown : OwnI w base v k) (vx : Value) (l : List Int) (hx : a.eval x = vx) (hsl : SlI w vx l)
    (hlen : k.length + l.length ≤ 1000000) (hbase : base ≤ w.heap.size)
    (h : ∀ v' w', OwnI w' base v' (k ++ l) → GrI w v w' v' → wpList Try.prog ops Q rest (a.put o.dst v') w') : wpList Try.prog ops Q (o :: rest) a w :=
  wpList_plain hgd fun _ hK => wp_append_ints w s x ho base v k hs hown vx l hx hsl hlen hbase fun v' w' h2 h3 => hK _ _ (h v' w' h2 h3)
/-- The same as one step of a region that draws its order. -/
theorem step_append_ints (w : World) {ops : Array Oper} {o : Oper} {a : Act} {K : Act → World → Prop} {Q : Exit → Act → World → Prop} {E : Prop} (hgd : o.guard = none) (s x : Operand)
    (ho : o.op = .call { callee := .builtin .append, args := #[s, x], argTypes := #[22, 22] })
    (base : Nat) (v : Value) (k : List Int) (hs : a.eval s = v) (hown : OwnI w base v k) (vx : Value) (l : List Int) (hx : a.eval x = vx) (hsl : SlI w vx l)
    (hlen : k.length + l.length ≤ 1000000) (hbase : base ≤ w.heap.size)
    (h : ∀ v' w', OwnI w' base v' (k ++ l) → GrI w v w' v' → K (a.put o.dst v') w') : if Region.wanted o (yielded ops a.tmps) = true then Oper.wp Try.prog o a w K Q else E := by
  have hw : Region.wanted o (yielded ops a.tmps) = true := by simp [Region.wanted, hgd]
  rw [if_pos hw]
  exact wp_append_ints w s x ho base v k hs hown vx l hx hsl hlen hbase h
theorem entersI {P : Program} {f : FuncId} {fn : Func} (hf : P.funcs[f]? = some fn) (hname : (fn.name == "runtime.NumGoroutine") = false) (hb : fn.body.isNone = false) : ∀ args w, (callFunc f args).run P w = .ok (.enter f args) w := fun args w => by
  have h1 : fn.name ≠ "runtime.NumGoroutine" := by simpa using hname
  have h2 : ¬ fn.body = none := fun e => by rw [e] at hb; cases hb
  simp [callFunc, hf, h1, h2]
/-- A call of a Go function as one step of a region that draws its order. -/
theorem step_callI {P : Program} (w : World) {ops : Array Oper} {o : Oper} {a : Act} {K : Act → World → Prop} {Q : Exit → Act → World → Prop} {E : Prop} (hgd : o.guard = none) {f : FuncId} {xs : Array Operand} {ts : Array TypeId}
    (ho : o.op = .call { callee := .value (.func f), args := xs, argTypes := ts }) (hen : ∀ args w, (callFunc f args).run P w = .ok (.enter f args) w)
    (args : Array Value) (hargs : xs.toList.map a.eval = args.toList) (h : Calls P f args w fun e w' => ∃ v, e = .returned v ∧ K (a.put o.dst v) w') : if Region.wanted o (yielded ops a.tmps) = true then Oper.wp P o a w K Q else E := by
  have hw : Region.wanted o (yielded ops a.tmps) = true := by simp [Region.wanted, hgd]
  rw [if_pos hw]
  have hargs : xs.map a.eval = args := Array.toList_inj.1 (by rw [Array.toList_map]; exact hargs)
  subst hargs
  have : (execOp a.eval o).run P w = .ok (.enter f (xs.map a.eval)) w := by
    unfold execOp
    simp [ho, resolve, invoke, Act.eval, Deferred.ofValue, hen]
  unfold Oper.wp
  rw [this]
  exact Calls.mono h fun e w'' ⟨v, he, hk⟩ => by subst he; exact hk
/-- make([]int, 0, n), run. -/
def madeI (n : Nat) : Array Value := madeCells #[.int .i64 0] n
theorem make_ints (n : Nat) (hn : n ≤ 1000000) (w : World) : (Instr.makeSlice 22 (.int .i64 0) (.int .i64 (n : Int))).run Try.prog w = .ok (.slice (some ⟨w.heap.size, 0, none⟩) 0 n) (w.alloc (.cells (madeI n) 3)) := by
  obtain ⟨i, hi, hz0, hz1, hz2⟩ := info_parts Try.infoInt
  have h := run_makeSlice (P := Try.prog) w 22 3 i (.int .i64 0) Try.underlying22 hi hz0 .i64 .i64 0 (n : Int) (by omega) (by omega) (by rw [hz1]; omega) (by rw [hz2]; omega) (by omega)
  rw [hz1] at h
  simpa [madeI, Value.cells] using h
theorem ownI_made (w : World) (n : Nat) (hn : n ≤ 1000000) (b : Nat) (hb : b = w.heap.size) : OwnI (w.alloc (.cells (madeI n) 3)) b (.slice (some ⟨b, 0, none⟩) 0 n) [] := by
  subst hb
  exact World.ownsRow_made w _ n (Nat.le_refl _) (by unfold maxLen; omega) (by unfold madeI; rw [size_madeCells]; omega)

/-! ### s[l:] -/
def cutFI (v lo : Value) : Option Value :=
  match v, lo with
  | .slice a len cap, .int _ l => if 0 ≤ l ∧ l ≤ len then some (sliced a l.toNat len cap 1) else none
  | _, _ => none
def vOutI (o : Option Value) (w : World) (r : Result Next) : Result Next :=
  match o with
  | some v => .ok (.value v) w
  | none => r
@[go_sem] theorem vOutI_some (v : Value) (w : World) (r : Result Next) : vOutI (some v) w r = .ok (.value v) w := rfl
theorem under_ints : Try.prog.underlying 22 = some (.slice (Try.prog.elem 22)) := by simp [Program.elem, Try.underlying22]
theorem elem_ints : Try.prog.elem 22 = 3 := by simp [Program.elem, Try.underlying22]
@[go_sem ↓] theorem slice_from_ints (ρ : Operand → Value) (dst : Option Tmp) (x lo : Operand) (ty : TypeId) (pos : String) (after : Array Edge) (guard : Option (Nat × Bool)) (w : World) :
    (execOp ρ { dst, op := .slice 22 x (some lo) none none, type := ty, pos, after, guard }).run Try.prog w = vOutI (cutFI (ρ x) (ρ lo)) w (opRest Try.prog ρ { dst, op := .slice 22 x (some lo) none none, type := ty, pos, after, guard } w) := by
  cases h : cutFI (ρ x) (ρ lo) with
  | none => rfl
  | some v =>
    unfold cutFI at h
    split at h
    · rename_i a len cap k l hx hl
      split at h
      · rename_i hb
        have hv := Option.some.inj h
        subst hv
        unfold execOp
        simp only [hx, hl, Option.map_some, Option.map_none, Sem.run_bind]
        rw [run_sliceAt_slice w _ _ _ _ _ under_ints, run_slice_l w _ a len cap under_ints k l hb.1 hb.2, elem_ints, Try.sizeOf3]
        rfl
      · cases h
    · cases h
/-- s[n:]. -/
theorem cut_fromI (p : Option Addr) (cap : Nat) (l : List Int) (n : Nat) (hn : n ≤ l.length) (hc : l.length ≤ cap) : ∃ vr, cutFI (.slice p l.length cap) (.int .i64 (n : Int)) = some vr ∧ ∀ (w : World), SlI w (.slice p l.length cap) l → SlI w vr (l.drop n) := by
  refine ⟨sliced p n l.length cap 1, ?_, fun w h => ?_⟩
  · show (if 0 ≤ (n : Int) ∧ (n : Int) ≤ (l.length : Int) then some (sliced p (n : Int).toNat l.length cap 1) else none) = _
    rw [if_pos (by omega), Int.toNat_natCast]
  · unfold sliced
    refine ⟨_, cap - n, by rw [List.length_drop], by rw [List.length_drop]; omega, ?_⟩
    by_cases e : n = l.length
    · left; rw [e, List.drop_length]
    · right
      obtain ⟨b, off, cap', e1, _, hb, hx⟩ := slI_ne h (by omega)
      injection e1 with e2 _ e3
      subst e2 e3
      rw [if_neg (by omega)]
      refine ⟨b, off + n, by simp [Addr.add_mid], hb, fun i hi => ?_⟩
      rw [List.length_drop] at hi
      rw [Nat.add_assoc, hx (n + i) (by omega), it_drop]

/-! ### An argument -/
section
open Go.WideShapes Go.ChangeShapes
variable {H : Type} {enc : TypeId × Value → H} {P : Program}
/-- Behind a call that has only made new memory the arguments read as they did. -/
theorem trodAllI (hl : laidOutB P = true) {W W' : World} (hb : Below W.heap.size W W') (sp : Nat → Bool) : ∀ {ts : List TypeId} {vs : List Value} {ds : List (DataW H)} {ps : List MemPlace}, (ts.all fun t => P.readableRec t && decide (t < P.types.size)) = true → DataW.TrodAll enc P W 0 (fun _ => true) true ts vs ds ps → (∀ x ∈ ps, x.block < W.heap.size) → (∀ x ∈ ps, sp x.block = true) → DataW.TrodAll enc P W' 0 sp true ts vs ds ps
  | [], [], _, _, _, h, _, _ => by
    obtain ⟨h1, h2, h3⟩ := trodAll_nil h
    subst h2 h3
    exact trodAll_mk0
  | [], _ :: _, _, _, _, h, _, _ => by
    obtain ⟨h1, _, _⟩ := trodAll_nil h
    cases h1
  | t :: ts, vs, ds, ps, hr, h, hlt, hsp => by
    obtain ⟨v, vs', d, ds', p, q, rfl, rfl, rfl, h1, h2⟩ := trodAll_cons h
    rw [List.all_cons, Bool.and_eq_true, Bool.and_eq_true, decide_eq_true_eq] at hr
    exact trodAll_cons_mk (WideElems.Trod_stays hl hr.1.1 hr.1.2 h1 (fun x hx => hb.same (hlt x (by simp [hx]))) (fun x hx => hsp x (by simp [hx])))
      (trodAllI hl hb sp hr.2 h2 (fun x hx => hlt x (by simp [hx])) (fun x hx => hsp x (by simp [hx])))
variable {w : World} {base : Nat} {sp : Nat → Bool} {held : Bool}
/-- The cell of a slice of ints. -/
theorem cells_ints {fuel : Nat} {a : Option Addr} {len cap : Nat} {x : DataW H × List MemPlace} (hf : DataW.trod enc Try.prog w base sp held fuel 22 [.slice a len cap] = some x) : ∃ l : List Int, SlI w (.slice a len cap) l := by
  rcases Deep.open_slice1 Try.underlying22 (by kernel_rfl) hf with ⟨h1, _⟩ | ⟨a', len', cap', m, n, V, D, Pl, h1, _, hl, hm, hmm, _, hx⟩
  · simp at h1
    obtain ⟨rfl, rfl, rfl⟩ := h1
    exact ⟨[], slI_nil _ _ _⟩
  · simp at h1
    obtain ⟨rfl, rfl, rfl⟩ := h1
    have hle : len ≤ m := by rw [hmm]; split <;> omega
    by_cases h0 : len = 0
    · subst h0
      exact ⟨[], slI_nil _ _ _⟩
    · have hr : ∀ i, i < len → ∃ x : Int, w.cell? (a'.add i) = some (.int .i64 x) := fun i hi => by
        obtain ⟨h1, h2⟩ := hx i (by omega)
        obtain ⟨n, e1, _, e3⟩ := DataW.trod_int Try.underlying3 h2
        have e4 : V i = .int .i64 n := (List.cons.inj e1).1
        exact ⟨n, by rw [h1, e4]⟩
      obtain ⟨b, off, s⟩ := a'
      obtain rfl : s = none := by
        obtain ⟨x, h⟩ := hr 0 (by omega)
        rw [show (⟨b, off, s⟩ : Addr).add 0 = ⟨b, off, s⟩ by simp [Addr.add]] at h
        exact cell_spot h
      obtain ⟨f, hf2⟩ := Deep.choose_lt hr
      refine ⟨(List.range len).map f, some ⟨b, off, none⟩, cap, by simp, by simpa using hl, .inr ⟨b, off, rfl, ?_, fun i hi => ?_⟩⟩
      · have := hf2 0 (by omega)
        rw [Addr.add_mid] at this
        exact block_lt_of_cell this
      · have hi' : i < len := by simpa using hi
        have := hf2 i hi'
        rw [Addr.add_mid] at this
        rw [this, it_in _ hi]
        simp
theorem open_intsI {r : Reach} {b0 : Nat} {v : Value} {d : DataW H} {ps : List MemPlace} (hval : Value.okWide Try.prog w r b0 22 v) (hd : DataW.Trod enc Try.prog w base sp held 22 v d ps) : ∃ l : List Int, SlI w v l := by
  obtain ⟨a, len, cap, rfl⟩ := okWide_slice Try.underlying22 hval
  obtain ⟨fuel, hf⟩ := hd
  exact cells_ints hf
end
end Go.Proofs.Ytmcnpefnebehfaa
