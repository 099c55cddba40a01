/-
  What a function answers whose results lie in cells: aggregates; for every program.
-/
import Derived.Test.YtljehgohcchocaaSt
namespace Go.Proofs.Ytljehgohcchocaa
open Go.RowKit
set_option maxRecDepth 100000

section
variable {P : Program}
theorem results_agg2 {T : TypeId} {n : Nat} (hA : ∀ w, (isAgg T).run P w = .ok true w) (hS : ∀ w, (Go.sizeOf T).run P w = .ok n w) (fn : Func) (d e : Nat) (h : fn.results = #[.cell d T, .tmp e]) (tmps : Array Value) (w : World) (b : Nat) (c : Array Value) (v : Value) (hp : tmps.getD d undef = .pointer (some ⟨b, 0, none⟩)) (hv : tmps.getD e undef = v) (hl : ldA w (.pointer (some ⟨b, 0, none⟩)) n = some c) :
    (results fn tmps).run P w = .ok (.tuple #[.agg c, v]) w := by
  have hp' : tmps[d]?.getD undef = .pointer (some ⟨b, 0, none⟩) := by simpa using hp
  have hv' : tmps[e]?.getD undef = v := by simpa using hv
  simp [results, h, hp', hv', asAddr, run_loadVar_agg hA hS w b 0 c hl]
theorem results_agg3 {T : TypeId} {n : Nat} (hA : ∀ w, (isAgg T).run P w = .ok true w) (hS : ∀ w, (Go.sizeOf T).run P w = .ok n w) (fn : Func) (d e f : Nat) (h : fn.results = #[.cell d T, .tmp e, .tmp f]) (tmps : Array Value) (w : World) (b : Nat) (c : Array Value) (v u : Value) (hp : tmps.getD d undef = .pointer (some ⟨b, 0, none⟩)) (hv : tmps.getD e undef = v) (hu : tmps.getD f undef = u) (hl : ldA w (.pointer (some ⟨b, 0, none⟩)) n = some c) :
    (results fn tmps).run P w = .ok (.tuple #[.agg c, v, u]) w := by
  have hp' : tmps[d]?.getD undef = .pointer (some ⟨b, 0, none⟩) := by simpa using hp
  have hv' : tmps[e]?.getD undef = v := by simpa using hv
  have hu' : tmps[f]?.getD undef = u := by simpa using hu
  simp [results, h, hp', hv', hu', asAddr, run_loadVar_agg hA hS w b 0 c hl]
theorem results_agg1 {T : TypeId} {n : Nat} (hA : ∀ w, (isAgg T).run P w = .ok true w) (hS : ∀ w, (Go.sizeOf T).run P w = .ok n w) (fn : Func) (d : Nat) (h : fn.results = #[.cell d T]) (tmps : Array Value) (w : World) (b : Nat) (c : Array Value) (hp : tmps.getD d undef = .pointer (some ⟨b, 0, none⟩)) (hl : ldA w (.pointer (some ⟨b, 0, none⟩)) n = some c) :
    (results fn tmps).run P w = .ok (.agg c) w := by
  have hp' : tmps[d]?.getD undef = .pointer (some ⟨b, 0, none⟩) := by simpa using hp
  simp [results, h, hp', asAddr, run_loadVar_agg hA hS w b 0 c hl]
theorem results_agg22 {T U : TypeId} {n m : Nat} (hA : ∀ w, (isAgg T).run P w = .ok true w) (hS : ∀ w, (Go.sizeOf T).run P w = .ok n w) (hB : ∀ w, (isAgg U).run P w = .ok true w) (hU : ∀ w, (Go.sizeOf U).run P w = .ok m w) (fn : Func) (d e f : Nat) (h : fn.results = #[.cell d T, .cell e U, .tmp f]) (tmps : Array Value) (w : World) (b b2 : Nat) (c c2 : Array Value) (v : Value) (hp : tmps.getD d undef = .pointer (some ⟨b, 0, none⟩)) (hq : tmps.getD e undef = .pointer (some ⟨b2, 0, none⟩)) (hv : tmps.getD f undef = v) (hl : ldA w (.pointer (some ⟨b, 0, none⟩)) n = some c) (hl2 : ldA w (.pointer (some ⟨b2, 0, none⟩)) m = some c2) :
    (results fn tmps).run P w = .ok (.tuple #[.agg c, .agg c2, v]) w := by
  have hp' : tmps[d]?.getD undef = .pointer (some ⟨b, 0, none⟩) := by simpa using hp
  have hq' : tmps[e]?.getD undef = .pointer (some ⟨b2, 0, none⟩) := by simpa using hq
  have hv' : tmps[f]?.getD undef = v := by simpa using hv
  simp [results, h, hp', hq', hv', asAddr, run_loadVar_agg hA hS w b 0 c hl, run_loadVar_agg hB hU w b2 0 c2 hl2]
end
/-! ### A stretch in a new block -/
@[go_sem] theorem wrA_alloc_seg (w : World) (c : Array Value) (t : TypeId) (b o n : Nat) (h : b = w.heap.size) (hn : o + n ≤ c.size) : wrA (w.alloc (.cells c t)) (.pointer (some ⟨b, o, none⟩)) n = true := by
  subst h
  exact wrA_mid (heap_alloc_last w _) hn
@[go_sem] theorem stA_alloc_seg (w : World) (c r : Array Value) (t : TypeId) (b o : Nat) (h : b = w.heap.size) (_hlt : r.size < c.size) (hn : o + r.size ≤ c.size) : stA (w.alloc (.cells c t)) (.pointer (some ⟨b, o, none⟩)) (.agg r) = w.alloc (.cells (putSeg c o r) t) := by
  subst h
  show (w.alloc (.cells c t)).setCells w.heap.size o r.toList = _
  rw [setCells_alloc_list]
  congr 2
  apply Array.ext_getElem?
  intro j
  rw [foldl_set, putSeg_get hn]
  by_cases hj : o ≤ j ∧ j < o + r.size
  · rw [if_pos (by simp; omega), if_pos hj]; simp
  · rw [if_neg (by simp; omega), if_neg hj]
@[go_sem] theorem stA_drew (w : World) (v x : Value) : stA w.drew v x = (stA w v x).drew := stA_drewN w v x 1
/-- A row's own new block, written out. -/
theorem ownE_lit {α : Type} {E : Lie α} (w : World) (l : List α) (n : Nat) (hn : l.length = n) (hl : n ≤ maxLen) (c : Array Value) (hc : c.toList = cellsE E l) (b : Nat) (hb : b = w.heap.size) : OwnE E (w.alloc (.cells c E.t)) b (.slice (some ⟨b, 0, none⟩) n n) l := by
  subst hb hn
  have hs : c.size = l.length * E.n := by rw [← Array.length_toList, hc, cellsE_length]
  refine ⟨cellsE_length E l, .inr ⟨w.heap.size, l.length, c, rfl, Nat.le_refl _, heap_alloc_last w _, Nat.le_refl _, hl, hs, ?_⟩⟩
  rw [hc]
  exact List.take_of_length_le (by rw [cellsE_length]; exact Nat.le_refl _)
end Go.Proofs.Ytljehgohcchocaa
