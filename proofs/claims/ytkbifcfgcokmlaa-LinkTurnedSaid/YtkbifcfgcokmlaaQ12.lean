/-
  A slice's value as plain data; for every program.
  []api.Link: append, s[n:], an argument; in any translation that has it. (written by wip/mkslice.py)
  What a function answers whose results lie in cells: aggregates; for every program.
-/
import Derived.Test.YtkbifcfgcokmlaaQ03
import Derived.Test.YtkbifcfgcokmlaaQ11
import Derived.Test.YtkbifcfgcokmlaaQ04
namespace Go.Proofs.Ytkbifcfgcokmlaa
open Go.RowKit
set_option maxRecDepth 100000
structure SlV where
  p : Option Addr
  len : Nat
  cap : Nat
def sv (s : SlV) : Value := .slice s.p s.len s.cap
@[go_sem] theorem sv_mk (p : Option Addr) (n c : Nat) : sv ⟨p, n, c⟩ = .slice p n c := rfl
theorem slE_sv {α : Type} {E : Lie α} {w : World} {v : Value} {l : List α} (h : SlE E w v l) : ∃ s : SlV, v = sv s ∧ s.len = l.length := by
  obtain ⟨p, cap, e, _⟩ := slE_shape h
  exact ⟨⟨p, l.length, cap⟩, e, rfl⟩
end Go.Proofs.Ytkbifcfgcokmlaa
namespace Go.Proofs.Ytkbifcfgcokmlaa
open Go.RowKit
set_option maxRecDepth 100000
theorem info_lk : (Try.prog.info? 36).map (fun i => (i.zero, i.size, i.bytes)) = some (some (.agg (lk zlk)), 67, 88) := by kernel_rfl
theorem Klk : Known Try.prog Elk 22 := ⟨Try.underlying22, .agg (lk zlk), 88, info_lk, by show ((lk zlk)).size = _; exact lk_size _, by decide⟩
@[go_sem ↓] theorem slice_from_lk (ρ : Operand → Value) (dst : Option Tmp) (x lo : Operand) (ty : TypeId) (pos : String) (after : Array Edge) (guard : Option (Nat × Bool)) (w : World) :
    (execOp ρ { dst, op := .slice 22 x (some lo) none none, type := ty, pos, after, guard }).run Try.prog w = vOutE (cutFE 67 (ρ x) (ρ lo)) w (opRest Try.prog ρ { dst, op := .slice 22 x (some lo) none none, type := ty, pos, after, guard } w) :=
  slice_from_E Try.underlying22 Try.sizeOf36 ρ dst x lo ty pos after guard w
@[go_sem ↓] theorem buildSlice_lk (ρ : Operand → Value) (dst : Option Tmp) (x : Operand) (ty : TypeId) (pos : String) (after : Array Edge) (guard : Option (Nat × Bool)) (w : World) (hx : okA 67 (ρ x) = true) :
    (execOp ρ { dst, op := .buildSlice 22 1 #[(0, x)], type := ty, pos, after, guard }).run Try.prog w = .ok (.value (.slice (some ⟨w.heap.size, 0, none⟩) 1 1)) (w.alloc (.cells (cellsA (ρ x)) 36)) := by
  obtain ⟨c, hc, hn⟩ : ∃ c, ρ x = .agg c ∧ c.size = 67 := by
    unfold okA at hx
    split at hx
    · rename_i c hc
      rw [Bool.and_eq_true, beq_iff_eq] at hx
      exact ⟨c, hc, hx.1⟩
    · cases hx
  have hp : (1 * 67 > 2 ^ 24) = False := by simp
  have h0 : (1 * 67 = 0) = False := by simp
  unfold execOp
  simp only [Instr.buildSlice, Sem.run_bind, run_underlying Try.underlying22, Result.andThen_ok, Try.sizeOf36, hp, h0, if_false, zero_lk, Value.cells]
  simp only [List.map_toArray, List.map_cons, List.map_nil, hc, Instr.fill, Value.cells, hn, Nat.zero_mul]
  simp [cellsA]
  rw [foldl_zip _ c (by simp [hn])]
  rfl
section
open Go.WideShapes Go.ChangeShapes
variable {H : Type} {enc : TypeId × Value → H} {w : World} {base : Nat} {sp : Nat → Bool} {held : Bool}
set_option maxRecDepth 100000 in
/-- A slice's one cell. -/
theorem cell_lks {fuel : Nat} {v : Value} {x : DataW H × List MemPlace} (h : DataW.trod enc Try.prog w base sp held fuel 22 [v] = some x) : ∃ l : List Lk, SlE Elk w v l :=
  cells_E Try.underlying22 cellsOf_lk (fun _ cs _ h => cells_lk (by obtain ⟨_, _, _, _, hl, _⟩ := DataW.trod_struct under_lk h; rw [hl, cellsOf_lk]) h) h
set_option maxRecDepth 100000 in
theorem cells_lks {fuel : Nat} {cs : List Value} {x : DataW H × List MemPlace} (h : DataW.trod enc Try.prog w base sp held fuel 22 cs = some x) : ∃ s : SlV, cs = [sv s] ∧ ∃ l : List Lk, SlE Elk w (sv s) l := by
  rcases Deep.open_slice Try.underlying22 h with ⟨h1, _⟩ | ⟨a', len', cap', _, _, _, _, h1, _⟩
  · subst h1
    exact ⟨⟨none, 0, 0⟩, rfl, [], slE_nil _ _ _ _⟩
  · subst h1
    exact ⟨⟨some a', len', cap'⟩, rfl, cell_lks h⟩
set_option maxRecDepth 100000 in
theorem open_lks {r : Reach} {b0 : Nat} {v : Value} {d : DataW H} {ps : List MemPlace} (hval : Value.okWide Try.prog w r b0 22 v) (hd : DataW.Trod enc Try.prog w base sp held 22 v d ps) : ∃ l : List Lk, SlE Elk w v l := by
  obtain ⟨a, len, cap, rfl⟩ := okWide_slice Try.underlying22 hval
  obtain ⟨fuel, hf⟩ := hd
  exact cell_lks hf
end
end Go.Proofs.Ytkbifcfgcokmlaa
namespace Go.Proofs.Ytkbifcfgcokmlaa
open Go.RowKit
set_option maxRecDepth 100000

section
variable {P : Program}
theorem results_agg2 {T : TypeId} {n : Nat} (hA : ∀ w, (isAgg T).run P w = .ok true w) (hS : ∀ w, (Go.sizeOf T).run P w = .ok n w) (fn : Func) (d e : Nat) (h : fn.results = #[.cell d T, .tmp e]) (tmps : Array Value) (w : World) (b : Nat) (c : Array Value) (v : Value) (hp : tmps.getD d undef = .pointer (some ⟨b, 0, none⟩)) (hv : tmps.getD e undef = v) (hl : ldA w (.pointer (some ⟨b, 0, none⟩)) n = some c) :
    (results fn tmps).run P w = .ok (.tuple #[.agg c, v]) w := by
  have hp' : tmps[d]?.getD undef = .pointer (some ⟨b, 0, none⟩) := by simpa using hp
  have hv' : tmps[e]?.getD undef = v := by simpa using hv
  simp [results, h, hp', hv', asAddr, run_loadVar_agg hA hS w b 0 c hl]
theorem results_agg3 {T : TypeId} {n : Nat} (hA : ∀ w, (isAgg T).run P w = .ok true w) (hS : ∀ w, (Go.sizeOf T).run P w = .ok n w) (fn : Func) (d e f : Nat) (h : fn.results = #[.cell d T, .tmp e, .tmp f]) (tmps : Array Value) (w : World) (b : Nat) (c : Array Value) (v u : Value) (hp : tmps.getD d undef = .pointer (some ⟨b, 0, none⟩)) (hv : tmps.getD e undef = v) (hu : tmps.getD f undef = u) (hl : ldA w (.pointer (some ⟨b, 0, none⟩)) n = some c) :
    (results fn tmps).run P w = .ok (.tuple #[.agg c, v, u]) w := by
  have hp' : tmps[d]?.getD undef = .pointer (some ⟨b, 0, none⟩) := by simpa using hp
  have hv' : tmps[e]?.getD undef = v := by simpa using hv
  have hu' : tmps[f]?.getD undef = u := by simpa using hu
  simp [results, h, hp', hv', hu', asAddr, run_loadVar_agg hA hS w b 0 c hl]
theorem results_agg1 {T : TypeId} {n : Nat} (hA : ∀ w, (isAgg T).run P w = .ok true w) (hS : ∀ w, (Go.sizeOf T).run P w = .ok n w) (fn : Func) (d : Nat) (h : fn.results = #[.cell d T]) (tmps : Array Value) (w : World) (b : Nat) (c : Array Value) (hp : tmps.getD d undef = .pointer (some ⟨b, 0, none⟩)) (hl : ldA w (.pointer (some ⟨b, 0, none⟩)) n = some c) :
    (results fn tmps).run P w = .ok (.agg c) w := by
  have hp' : tmps[d]?.getD undef = .pointer (some ⟨b, 0, none⟩) := by simpa using hp
  simp [results, h, hp', asAddr, run_loadVar_agg hA hS w b 0 c hl]
theorem results_agg22 {T U : TypeId} {n m : Nat} (hA : ∀ w, (isAgg T).run P w = .ok true w) (hS : ∀ w, (Go.sizeOf T).run P w = .ok n w) (hB : ∀ w, (isAgg U).run P w = .ok true w) (hU : ∀ w, (Go.sizeOf U).run P w = .ok m w) (fn : Func) (d e f : Nat) (h : fn.results = #[.cell d T, .cell e U, .tmp f]) (tmps : Array Value) (w : World) (b b2 : Nat) (c c2 : Array Value) (v : Value) (hp : tmps.getD d undef = .pointer (some ⟨b, 0, none⟩)) (hq : tmps.getD e undef = .pointer (some ⟨b2, 0, none⟩)) (hv : tmps.getD f undef = v) (hl : ldA w (.pointer (some ⟨b, 0, none⟩)) n = some c) (hl2 : ldA w (.pointer (some ⟨b2, 0, none⟩)) m = some c2) :
    (results fn tmps).run P w = .ok (.tuple #[.agg c, .agg c2, v]) w := by
  have hp' : tmps[d]?.getD undef = .pointer (some ⟨b, 0, none⟩) := by simpa using hp
  have hq' : tmps[e]?.getD undef = .pointer (some ⟨b2, 0, none⟩) := by simpa using hq
  have hv' : tmps[f]?.getD undef = v := by simpa using hv
  simp [results, h, hp', hq', hv', asAddr, run_loadVar_agg hA hS w b 0 c hl, run_loadVar_agg hB hU w b2 0 c2 hl2]
end
/-! ### A stretch in a new block -/
@[go_sem] theorem wrA_alloc_seg (w : World) (c : Array Value) (t : TypeId) (b o n : Nat) (h : b = w.heap.size) (hn : o + n ≤ c.size) : wrA (w.alloc (.cells c t)) (.pointer (some ⟨b, o, none⟩)) n = true := by
  subst h
  exact wrA_mid (heap_alloc_last w _) hn
@[go_sem] theorem stA_alloc_seg (w : World) (c r : Array Value) (t : TypeId) (b o : Nat) (h : b = w.heap.size) (_hlt : r.size < c.size) (hn : o + r.size ≤ c.size) : stA (w.alloc (.cells c t)) (.pointer (some ⟨b, o, none⟩)) (.agg r) = w.alloc (.cells (putSeg c o r) t) := by
  subst h
  show (w.alloc (.cells c t)).setCells w.heap.size o r.toList = _
  rw [setCells_alloc_list]
  congr 2
  apply Array.ext_getElem?
  intro j
  rw [foldl_set, putSeg_get hn]
  by_cases hj : o ≤ j ∧ j < o + r.size
  · rw [if_pos (by simp; omega), if_pos hj]; simp
  · rw [if_neg (by simp; omega), if_neg hj]
@[go_sem] theorem stA_drew (w : World) (v x : Value) : stA w.drew v x = (stA w v x).drew := stA_drewN w v x 1
/-- A row's own new block, written out. -/
theorem ownE_lit {α : Type} {E : Lie α} (w : World) (l : List α) (n : Nat) (hn : l.length = n) (hl : n ≤ maxLen) (c : Array Value) (hc : c.toList = cellsE E l) (b : Nat) (hb : b = w.heap.size) : OwnE E (w.alloc (.cells c E.t)) b (.slice (some ⟨b, 0, none⟩) n n) l := by
  subst hb hn
  have hs : c.size = l.length * E.n := by rw [← Array.length_toList, hc, cellsE_length]
  refine ⟨cellsE_length E l, .inr ⟨w.heap.size, l.length, c, rfl, Nat.le_refl _, heap_alloc_last w _, Nat.le_refl _, hl, hs, ?_⟩⟩
  rw [hc]
  exact List.take_of_length_le (by rw [cellsE_length]; exact Nat.le_refl _)
end Go.Proofs.Ytkbifcfgcokmlaa
