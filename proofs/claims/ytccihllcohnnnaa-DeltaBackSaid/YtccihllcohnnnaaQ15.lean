/-
  What a function answers whose results lie in cells: aggregates; for every program.
  Blocks kept over calls; in every program.
  An element stored whole into a slice; for every program.
  append onto a row of the call's own, of as many elements as memory holds; for every program.
  []uint64: append, s[n:], an argument; in any translation that has it. (written by wip/mkslice.py)
-/
import Derived.Test.YtccihllcohnnnaaQ09
import Derived.Test.YtccihllcohnnnaaQ08
import Derived.Test.YtccihllcohnnnaaQ10
import Derived.Test.YtccihllcohnnnaaQ14
namespace Go.Proofs.Ytccihllcohnnnaa
open Go.RowKit
set_option maxRecDepth 100000

section
variable {P : Program}
theorem results_agg2 {T : TypeId} {n : Nat} (hA : ∀ w, (isAgg T).run P w = .ok true w) (hS : ∀ w, (Go.sizeOf T).run P w = .ok n w) (fn : Func) (d e : Nat) (h : fn.results = #[.cell d T, .tmp e]) (tmps : Array Value) (w : World) (b : Nat) (c : Array Value) (v : Value) (hp : tmps.getD d undef = .pointer (some ⟨b, 0, none⟩)) (hv : tmps.getD e undef = v) (hl : ldA w (.pointer (some ⟨b, 0, none⟩)) n = some c) :
    (results fn tmps).run P w = .ok (.tuple #[.agg c, v]) w := by
  have hp' : tmps[d]?.getD undef = .pointer (some ⟨b, 0, none⟩) := by simpa using hp
  have hv' : tmps[e]?.getD undef = v := by simpa using hv
  simp [results, h, hp', hv', asAddr, run_loadVar_agg hA hS w b 0 c hl]
theorem results_agg3 {T : TypeId} {n : Nat} (hA : ∀ w, (isAgg T).run P w = .ok true w) (hS : ∀ w, (Go.sizeOf T).run P w = .ok n w) (fn : Func) (d e f : Nat) (h : fn.results = #[.cell d T, .tmp e, .tmp f]) (tmps : Array Value) (w : World) (b : Nat) (c : Array Value) (v u : Value) (hp : tmps.getD d undef = .pointer (some ⟨b, 0, none⟩)) (hv : tmps.getD e undef = v) (hu : tmps.getD f undef = u) (hl : ldA w (.pointer (some ⟨b, 0, none⟩)) n = some c) :
    (results fn tmps).run P w = .ok (.tuple #[.agg c, v, u]) w := by
  have hp' : tmps[d]?.getD undef = .pointer (some ⟨b, 0, none⟩) := by simpa using hp
  have hv' : tmps[e]?.getD undef = v := by simpa using hv
  have hu' : tmps[f]?.getD undef = u := by simpa using hu
  simp [results, h, hp', hv', hu', asAddr, run_loadVar_agg hA hS w b 0 c hl]
theorem results_agg1 {T : TypeId} {n : Nat} (hA : ∀ w, (isAgg T).run P w = .ok true w) (hS : ∀ w, (Go.sizeOf T).run P w = .ok n w) (fn : Func) (d : Nat) (h : fn.results = #[.cell d T]) (tmps : Array Value) (w : World) (b : Nat) (c : Array Value) (hp : tmps.getD d undef = .pointer (some ⟨b, 0, none⟩)) (hl : ldA w (.pointer (some ⟨b, 0, none⟩)) n = some c) :
    (results fn tmps).run P w = .ok (.agg c) w := by
  have hp' : tmps[d]?.getD undef = .pointer (some ⟨b, 0, none⟩) := by simpa using hp
  simp [results, h, hp', asAddr, run_loadVar_agg hA hS w b 0 c hl]
theorem results_agg22 {T U : TypeId} {n m : Nat} (hA : ∀ w, (isAgg T).run P w = .ok true w) (hS : ∀ w, (Go.sizeOf T).run P w = .ok n w) (hB : ∀ w, (isAgg U).run P w = .ok true w) (hU : ∀ w, (Go.sizeOf U).run P w = .ok m w) (fn : Func) (d e f : Nat) (h : fn.results = #[.cell d T, .cell e U, .tmp f]) (tmps : Array Value) (w : World) (b b2 : Nat) (c c2 : Array Value) (v : Value) (hp : tmps.getD d undef = .pointer (some ⟨b, 0, none⟩)) (hq : tmps.getD e undef = .pointer (some ⟨b2, 0, none⟩)) (hv : tmps.getD f undef = v) (hl : ldA w (.pointer (some ⟨b, 0, none⟩)) n = some c) (hl2 : ldA w (.pointer (some ⟨b2, 0, none⟩)) m = some c2) :
    (results fn tmps).run P w = .ok (.tuple #[.agg c, .agg c2, v]) w := by
  have hp' : tmps[d]?.getD undef = .pointer (some ⟨b, 0, none⟩) := by simpa using hp
  have hq' : tmps[e]?.getD undef = .pointer (some ⟨b2, 0, none⟩) := by simpa using hq
  have hv' : tmps[f]?.getD undef = v := by simpa using hv
  simp [results, h, hp', hq', hv', asAddr, run_loadVar_agg hA hS w b 0 c hl, run_loadVar_agg hB hU w b2 0 c2 hl2]
end
/-! ### A stretch in a new block -/
@[go_sem] theorem wrA_alloc_seg (w : World) (c : Array Value) (t : TypeId) (b o n : Nat) (h : b = w.heap.size) (hn : o + n ≤ c.size) : wrA (w.alloc (.cells c t)) (.pointer (some ⟨b, o, none⟩)) n = true := by
  subst h
  exact wrA_mid (heap_alloc_last w _) hn
@[go_sem] theorem stA_alloc_seg (w : World) (c r : Array Value) (t : TypeId) (b o : Nat) (h : b = w.heap.size) (_hlt : r.size < c.size) (hn : o + r.size ≤ c.size) : stA (w.alloc (.cells c t)) (.pointer (some ⟨b, o, none⟩)) (.agg r) = w.alloc (.cells (putSeg c o r) t) := by
  subst h
  show (w.alloc (.cells c t)).setCells w.heap.size o r.toList = _
  rw [setCells_alloc_list]
  congr 2
  apply Array.ext_getElem?
  intro j
  rw [foldl_set, putSeg_get hn]
  by_cases hj : o ≤ j ∧ j < o + r.size
  · rw [if_pos (by simp; omega), if_pos hj]; simp
  · rw [if_neg (by simp; omega), if_neg hj]
@[go_sem] theorem stA_drew (w : World) (v x : Value) : stA w.drew v x = (stA w v x).drew := stA_drewN w v x 1
/-- A row's own new block, written out. -/
theorem ownE_lit {α : Type} {E : Lie α} (w : World) (l : List α) (n : Nat) (hn : l.length = n) (hl : n ≤ maxLen) (c : Array Value) (hc : c.toList = cellsE E l) (b : Nat) (hb : b = w.heap.size) : OwnE E (w.alloc (.cells c E.t)) b (.slice (some ⟨b, 0, none⟩) n n) l := by
  subst hb hn
  have hs : c.size = l.length * E.n := by rw [← Array.length_toList, hc, cellsE_length]
  refine ⟨cellsE_length E l, .inr ⟨w.heap.size, l.length, c, rfl, Nat.le_refl _, heap_alloc_last w _, Nat.le_refl _, hl, hs, ?_⟩⟩
  rw [hc]
  exact List.take_of_length_le (by rw [cellsE_length]; exact Nat.le_refl _)
end Go.Proofs.Ytccihllcohnnnaa
namespace Go.Proofs.Ytccihllcohnnnaa
open Go.RowKit
set_option maxRecDepth 100000

theorem below1 {w : World} {o : Obj} : Below w.heap.size w (w.alloc o) := (Below.refl _ _).alloc (Nat.le_refl _) _
theorem blk_keep {w w' : World} {b : Nat} {o : Obj} (g : Below w.heap.size w w') (h : w.heap[b]? = some o) : w'.heap[b]? = some o := (g.block _ (Array.getElem?_eq_some_iff.1 h).1).trans h
theorem heap3 (w : World) (a b c : Array Value) (s t u : TypeId) (W : World) (hW : W = ((w.alloc (.cells a s)).alloc (.cells b t)).alloc (.cells c u)) : Below w.heap.size w W ∧ W.heap[w.heap.size]? = some (.cells a s (0, 0)) ∧ W.heap[w.heap.size + 1]? = some (.cells b t (0, 0)) ∧ W.heap[w.heap.size + 2]? = some (.cells c u (0, 0)) ∧ W.heap.size = w.heap.size + 3 := by
  subst hW
  have e1 : ∀ o : Obj, (w.alloc o).heap.size = w.heap.size + 1 := fun o => by simp
  have e2 : ∀ o o' : Obj, ((w.alloc o).alloc o').heap.size = w.heap.size + 2 := fun o o' => by simp
  refine ⟨belowT (belowT below1 below1) below1, ?_, ?_, ?_, by simp⟩
  · exact blk_keep below1 (blk_keep below1 (heap_alloc_last w _))
  · have := blk_keep (below1 (o := .cells c u)) (heap_alloc_last (w.alloc (.cells a s)) (.cells b t))
    rwa [e1] at this
  · have := heap_alloc_last ((w.alloc (.cells a s)).alloc (.cells b t)) (.cells c u)
    rwa [e2] at this
theorem heap2 (w : World) (a b : Array Value) (s t : TypeId) (W : World) (hW : W = (w.alloc (.cells a s)).alloc (.cells b t)) : Below w.heap.size w W ∧ W.heap[w.heap.size]? = some (.cells a s (0, 0)) ∧ W.heap[w.heap.size + 1]? = some (.cells b t (0, 0)) ∧ W.heap.size = w.heap.size + 2 := by
  subst hW
  have e1 : ∀ o : Obj, (w.alloc o).heap.size = w.heap.size + 1 := fun o => by simp
  refine ⟨belowT below1 below1, ?_, ?_, by simp⟩
  · exact blk_keep below1 (heap_alloc_last w _)
  · have := heap_alloc_last (w.alloc (.cells a s)) (.cells b t)
    rwa [e1] at this
theorem wd_cell {w : World} {g o : Nat} {v : Value} (h : w.cell? ⟨g, o, none⟩ = some v) (p : Wd w.drew) : p.w.cell? ⟨g, o, none⟩ = some v := (p.h.cell (p := ⟨g, o, none⟩) (block_lt_of_cell (show w.drew.cell? ⟨g, o, none⟩ = some v from h))).trans h
theorem wd_ld {w : World} {v : Value} {n : Nat} {c : Array Value} (h : ldA w v n = some c) (hn : 0 < n := by decide) (p : Wd w.drew) : ldA p.w v n = some c := ldA_wd (show ldA w.drew v n = _ by rw [ldA_drew]; exact h) hn p
end Go.Proofs.Ytccihllcohnnnaa
namespace Go.Proofs.Ytccihllcohnnnaa
open Go.RowKit
set_option maxRecDepth 100000
theorem range_join {w : World} {b o : Nat} {xs ys : List Value} (h : w.rangeAt b o xs) (k : w.rangeAt b (o + xs.length) ys) : w.rangeAt b o (xs ++ ys) := fun j v hv => by
  by_cases hj : j < xs.length
  · rw [List.getElem?_append_left hj] at hv
    exact h j v hv
  · rw [List.getElem?_append_right (by omega)] at hv
    have := k _ v hv
    rwa [show o + xs.length + (j - xs.length) = o + j by omega] at this
theorem range_left {w : World} {b o : Nat} {xs ys : List Value} (h : w.rangeAt b o (xs ++ ys)) : w.rangeAt b o xs := fun j v hv => h j v (by rw [List.getElem?_append_left (List.getElem?_eq_some_iff.1 hv).1]; exact hv)
theorem range_right {w : World} {b o : Nat} {xs ys : List Value} (h : w.rangeAt b o (xs ++ ys)) : w.rangeAt b (o + xs.length) ys := fun j v hv => by
  rw [Nat.add_assoc]
  exact h _ v (by rw [List.getElem?_append_right (by omega), Nat.add_sub_cancel_left]; exact hv)
section
variable {α : Type} {E : Lie α}
theorem cellsE_cut (l : List α) {i : Nat} (hi : i < l.length) : cellsE E l = cellsE E (l.take i) ++ (E.enc l[i] ++ cellsE E (l.drop (i + 1))) := by
  conv => lhs; rw [← List.take_append_drop i l]
  rw [cellsE_append, List.drop_eq_getElem_cons hi, cellsE_cons]
theorem cellsE_set (l : List α) {i : Nat} (hi : i < l.length) (x : α) : cellsE E (l.set i x) = cellsE E (l.take i) ++ (E.enc x ++ cellsE E (l.drop (i + 1))) := by
  rw [cellsE_cut (l.set i x) (i := i) (by rw [List.length_set]; exact hi), List.take_set_of_le (Nat.le_refl _), List.getElem_set_self, List.drop_set_of_lt (by omega)]
/-- The element's cells are those of the value, all others stay. -/
theorem range_put {w : World} {b o : Nat} {l : List α} (h : w.rangeAt b o (cellsE E l)) {i : Nat} (hi : i < l.length) (hw : wrA w (.pointer (some ⟨b, o + i * E.n, none⟩)) E.n = true) (x : α) :
    (w.setCells b (o + i * E.n) (E.enc x)).rangeAt b o (cellsE E (l.set i x)) := by
  have hlen : (cellsE E (l.take i)).length = i * E.n := by rw [cellsE_length, List.length_take, Nat.min_eq_left (by omega)]
  rw [cellsE_cut l hi] at h
  rw [cellsE_set l hi]
  have h1 := range_left h
  have h2 := range_right (range_right h)
  rw [hlen, E.len] at h2
  refine range_join (World.rangeAt_setCells_apart h1 _ _ _ (.inr (.inl (by rw [hlen]; exact Nat.le_refl _)))) (range_join ?_ ?_)
  · rw [hlen]
    exact World.rangeAt_setCells_same w b _ _ (by rw [E.len]; exact wrA_there.1 hw)
  · rw [hlen, E.len]
    exact World.rangeAt_setCells_apart h2 _ _ _ (.inr (.inr (by rw [E.len]; exact Nat.le_refl _)))
/-- An element of a row of the call's own may be written. -/
theorem ownE_wr {w : World} {base g n cap : Nat} {l : List α} (h : OwnE E w base (.slice (some ⟨g, 0, none⟩) n cap) l) (hl : l.length = n) {i : Nat} (hi : i < n) : wrA w (.pointer (some ⟨g, 0 + i * E.n, none⟩)) E.n = true := by
  subst hl
  obtain ⟨b, off, c, e, _, _, x⟩ := slE_ne (ownE_slE h) (by omega)
  injection e with e _ _
  injection e with e
  injection e with e1 e2
  subst e1 e2
  refine wrA_there.2 fun j hj => ⟨?_, ?_⟩
  · have hc : (E.enc l[i])[j]? = some ((E.enc l[i])[j]'(by rw [E.len]; exact hj)) := List.getElem?_eq_getElem _
    rw [cell_at x hi hc]
    rfl
  · exact World.ownsRow.frozenAt h _
end
end Go.Proofs.Ytccihllcohnnnaa
namespace Go.Proofs.Ytccihllcohnnnaa
open Go.RowKit
set_option maxRecDepth 100000
section
variable {α : Type} {E : Lie α} {P : Program}
/-- What the program knows of the element's type, its bytes told. -/
structure KnownB (P : Program) (E : Lie α) (T : TypeId) (bytes : Nat) : Prop where
  slice : P.underlying T = some (.slice E.t)
  info : ∃ z : Value, (P.info? E.t).map (fun i => (i.zero, i.size, i.bytes)) = some (some z, E.n, bytes) ∧ z.cells.size = E.n
theorem run_append_B {T : TypeId} {bytes : Nat} (K : KnownB P E T bytes) (w : World) (ty : TypeId) (base : Nat) (v : Value) (k : List α) (hown : OwnE E w base v k) (vx : Value) (l : List α) (hsl : SlE E w vx l) (hlen : k.length + l.length ≤ maxLen) (hb : (k.length + l.length) * bytes ≤ 140737488355328) (hbase : base ≤ w.heap.size) :
    ∃ v' w', (Builtin.append_ #[T, T] ty #[v, vx]).run P w = .ok v' w' ∧ OwnE E w' base v' (k ++ l) ∧ Gr w v w' v' := by
  obtain ⟨z, hinf, hzs⟩ := K.info
  obtain ⟨i, hi, hz0, hz1, hz2⟩ := info_parts hinf
  by_cases hn : l = []
  · subst hn
    obtain ⟨p, cap, rfl, _⟩ := hsl
    exact ⟨v, w, run_append_noneE (P := P) (w := w) base T ty E.t i E.n K.slice hi v k.length _ hown p cap, by simpa using hown, Gr.refl _ _⟩
  · obtain ⟨b, off, cap, rfl, _, _, hc⟩ := slE_ne hsl (List.length_pos_iff.2 hn)
    obtain ⟨v', w', h1, h2, h3, _, h5⟩ := run_append_own_at (P := P) w base T ty E.t i z E.n bytes K.slice hi hz0 hz1 hz2 hzs E.pos v k.length (cellsE E k) hown ⟨b, off, none⟩ l.length cap (cellsE E l) (cellsE_length E l) (range_cells hc) (cellsE_one E l) hlen hb hbase
    refine ⟨v', w', h1, ?_, h3, h5.imp id fun e q hq => ?_⟩
    · unfold OwnE; rw [List.length_append, cellsE_append]; exact h2
    · rw [e] at hq; injection hq with hq; omega
theorem wpList_append_B {T : TypeId} {bytes : Nat} (K : KnownB P E T bytes) (w : World) {ops : Array Oper} {rest : List Oper} {o : Oper} {a : Act} {Q : Exit → Act → World → Prop} (hgd : o.guard = none) (s x : Operand)
    (ho : o.op = .call { callee := .builtin .append, args := #[s, x], argTypes := #[T, T] })
    (base : Nat) (v : Value) (k : List α) (hs : a.eval s = v) (hown : OwnE E w base v k) (vx : Value) (l : List α) (hx : a.eval x = vx) (hsl : SlE E w vx l)
    (hlen : k.length + l.length ≤ maxLen) (hb : (k.length + l.length) * bytes ≤ 140737488355328) (hbase : base ≤ w.heap.size)
    (h : ∀ v' w', OwnE E w' base v' (k ++ l) → Gr w v w' v' → wpList P ops Q rest (a.put o.dst v') w') : wpList P ops Q (o :: rest) a w :=
  wpList_plain hgd fun K' hK => by
    obtain ⟨v', w', hr, h2, h3⟩ := run_append_B K w o.type base v k hown vx l hsl hlen hb hbase
    unfold Oper.wp execOp
    simp only [ho, resolve, invoke, builtin, Sem.run_bind, Sem.run_pure, Result.andThen_ok, List.map_toArray, List.map_cons, List.map_nil, hs, hx, hr]
    exact hK _ _ (h v' w' h2 h3)
end
end Go.Proofs.Ytccihllcohnnnaa
namespace Go.Proofs.Ytccihllcohnnnaa
open Go.RowKit
set_option maxRecDepth 100000
theorem info_num : (Try.prog.info? 26).map (fun i => (i.zero, i.size, i.bytes)) = some (some (num 0), 1, 8) := by kernel_rfl
theorem Knum : Known Try.prog Enum 29 := ⟨Try.underlying29, num 0, 8, info_num, rfl, by decide⟩
@[go_sem ↓] theorem slice_from_num (ρ : Operand → Value) (dst : Option Tmp) (x lo : Operand) (ty : TypeId) (pos : String) (after : Array Edge) (guard : Option (Nat × Bool)) (w : World) :
    (execOp ρ { dst, op := .slice 29 x (some lo) none none, type := ty, pos, after, guard }).run Try.prog w = vOutE (cutFE 1 (ρ x) (ρ lo)) w (opRest Try.prog ρ { dst, op := .slice 29 x (some lo) none none, type := ty, pos, after, guard } w) :=
  slice_from_E Try.underlying29 Try.sizeOf26 ρ dst x lo ty pos after guard w
section
open Go.WideShapes Go.ChangeShapes
variable {H : Type} {enc : TypeId × Value → H} {w : World} {base : Nat} {sp : Nat → Bool} {held : Bool}
set_option maxRecDepth 100000 in
/-- A slice's one cell. -/
theorem cell_nums {fuel : Nat} {v : Value} {x : DataW H × List MemPlace} (h : DataW.trod enc Try.prog w base sp held fuel 29 [v] = some x) : ∃ l : List UInt64, SlE Enum w v l :=
  cells_E Try.underlying29 cellsOf_num (fun _ _ _ h => cells_num h) h
set_option maxRecDepth 100000 in
theorem cells_nums {fuel : Nat} {cs : List Value} {x : DataW H × List MemPlace} (h : DataW.trod enc Try.prog w base sp held fuel 29 cs = some x) : ∃ s : SlV, cs = [sv s] ∧ ∃ l : List UInt64, SlE Enum w (sv s) l := by
  rcases Deep.open_slice Try.underlying29 h with ⟨h1, _⟩ | ⟨a', len', cap', _, _, _, _, h1, _⟩
  · subst h1
    exact ⟨⟨none, 0, 0⟩, rfl, [], slE_nil _ _ _ _⟩
  · subst h1
    exact ⟨⟨some a', len', cap'⟩, rfl, cell_nums h⟩
set_option maxRecDepth 100000 in
theorem open_nums {r : Reach} {b0 : Nat} {v : Value} {d : DataW H} {ps : List MemPlace} (hval : Value.okWide Try.prog w r b0 29 v) (hd : DataW.Trod enc Try.prog w base sp held 29 v d ps) : ∃ l : List UInt64, SlE Enum w v l := by
  obtain ⟨a, len, cap, rfl⟩ := okWide_slice Try.underlying29 hval
  obtain ⟨fuel, hf⟩ := hd
  exact cell_nums hf
end
end Go.Proofs.Ytccihllcohnnnaa
