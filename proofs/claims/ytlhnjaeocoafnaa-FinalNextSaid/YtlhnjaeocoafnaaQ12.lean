/-
  Which of two roots is less: what the walks of it want.
  What is justified, and final, as the document's functions tell it; what the laws of layer 16 want; no word of the program.
  A slice's value as plain data; for every program.
  []api.Check: append, s[n:], an argument; in any translation that has it. (written by wip/mkslice.py)
  What a function answers whose results lie in cells: aggregates; for every program.
  Blocks kept over calls; in every program.
-/
import Derived.Test.YtlhnjaeocoafnaaQ01
import Derived.Test.YtlhnjaeocoafnaaQ05
import Derived.Test.YtlhnjaeocoafnaaQ06
import Derived.Test.YtlhnjaeocoafnaaQ02
import Derived.Test.YtlhnjaeocoafnaaQ09
import Derived.Test.YtlhnjaeocoafnaaQ11
import Derived.Test.YtlhnjaeocoafnaaQ08
import Derived.Test.YtlhnjaeocoafnaaQ07
namespace Go.Proofs.Ytlhnjaeocoafnaa
open Go.RowKit
set_option maxRecDepth 100000

theorem lessB2 {w : World} {a b : Obj} : Below w.heap.size w ((w.alloc a).alloc b) := ((Below.refl _ _).alloc (Nat.le_refl _) _).alloc (by simp) _
theorem strict_less : (∀ a : Rt, lessR a a = false) ∧ (∀ a b c : Rt, lessR a b = true → lessR b c = true → lessR a c = true) ∧ (∀ a b : Rt, a ≠ b → lessR a b = true ∨ lessR b a = true) := by
  refine ⟨lessR_irrefl, fun a b c h k => lessR_trans h k, fun a b hab => ?_⟩
  cases h : lessR a b
  · cases k : lessR b a
    · exact absurd (lessR_tri h k) hab
    · exact .inr rfl
  · exact .inl rfl
end Go.Proofs.Ytlhnjaeocoafnaa
namespace Go.Proofs.Ytlhnjaeocoafnaa
set_option maxRecDepth 100000

def toldF (l : List Nd) (ls : List Lk) (bal : List UInt64) : Bool := decide (MayT l) && (mayL ls && mayB bal)
def cntB (l : List Nd) (bal : List UInt64) (k : Lk) : Bool := behindB l k.t k.s && mostS bal k.mask
def moreL (l : List Nd) (ls : List Lk) (bal : List UInt64) (js : List Ck) : List Ck := if toldF l ls bal = true then moreT (cntB l bal) ls js else js
def finalsL (l : List Nd) (ls : List Lk) (bal : List UInt64) (js : List Ck) : List Ck := if toldF l ls bal = true then finalsT (cntB l bal) ls js else []
def okN (l : List Nd) (fin c : Ck) : Bool := behindB l c fin && decide (fin.epoch.toNat < c.epoch.toNat)
def nextC (l : List Nd) (ls : List Lk) (bal : List UInt64) (js : List Ck) (fin : Ck) : Ck := bestC lessR (okN l fin) (finalsL l ls bal js) fin
def bestJ (l : List Nd) (js : List Ck) (fin : Ck) : Ck := bestC lessR (fun c => behindB l c fin) js fin
section
variable {l : List Nd} {ls : List Lk} {bal : List UInt64} {js : List Ck} {fin : Ck}
theorem told_iffF : toldF l ls bal = true ↔ MayT l ∧ mayL ls = true ∧ mayB bal = true := by unfold toldF; rw [Bool.and_eq_true, Bool.and_eq_true, decide_eq_true_iff]
theorem moreL_no (h : toldF l ls bal = false) : moreL l ls bal js = js := by unfold moreL; rw [if_neg (by rw [h]; exact Bool.false_ne_true)]
theorem moreL_yes (h : toldF l ls bal = true) : moreL l ls bal js = moreT (cntB l bal) ls js := by unfold moreL; rw [if_pos h]
theorem finalsL_no (h : toldF l ls bal = false) : finalsL l ls bal js = [] := by unfold finalsL; rw [if_neg (by rw [h]; exact Bool.false_ne_true)]
theorem finalsL_yes (h : toldF l ls bal = true) : finalsL l ls bal js = finalsT (cntB l bal) ls js := by unfold finalsL; rw [if_pos h]
/-! ### FinalSafe -/
theorem law_fsafe (h : toldF l ls bal = true) (hg : someS bal (guiltT ls) = false) {b : Ck} (hb : 0 ≤ findT l b.root) : chainT l (b :: finalsL l ls bal (moreL l ls bal [b])) = true := by
  obtain ⟨hm, hl, hbal⟩ := told_iffF.1 h
  have h64 : bal.length ≤ 64 := by have := (mayB_iff.1 hbal).2.1; omega
  have hof : ∀ a, ofS bal a = ofN (fn bal) bal.length a := fun a => ofS_yes hbal
  rw [moreL_yes h, finalsL_yes h]
  refine law_safe (most := mostS bal) (some_ := someS bal) (fun x y hx hy => ?_) (fun x y hs hx => ?_) hm (fun k hk => ?_) hg hb
  · unfold mostS someS totS at *
    rw [hbal, Bool.true_and] at *
    rw [hof, hof] at *
    exact most_common (fn bal) h64 hx hy
  · unfold someS totS at *
    rw [hbal, Bool.true_and] at *
    rw [hof, hof] at *
    exact some_mono (fn bal) hs hx
  · obtain ⟨i, hi, rfl⟩ := List.getElem_of_mem hk
    have := ((mayL_iff.1 hl).1 i hi).1.1
    rwa [lkAt_in hi] at this
/-! ### FinalNext -/
theorem law_next : nextC l ls bal js fin = fin ∨ (nextC l ls bal js fin ∈ finalsL l ls bal js ∧ behindB l (nextC l ls bal js fin) fin = true ∧ fin.epoch.toNat < (nextC l ls bal js fin).epoch.toNat) := by
  obtain ⟨h, _, _⟩ := bestC_spec lessR (okN l fin) (finalsL l ls bal js) fin
  rcases h with h | ⟨h1, h2⟩
  · exact .inl h
  · unfold okN at h2
    rw [Bool.and_eq_true, decide_eq_true_iff] at h2
    exact .inr ⟨h1, h2.1, h2.2⟩
theorem behind_may {c d : Ck} (h : behindB l c d = true) : MayT l := by obtain ⟨_, _, hm, _⟩ := behind_parts h; exact hm
theorem chain_two {c d : Ck} (h : behindB l d c = true) : chainT l [c, d] = true := by
  have hm := behind_may h
  have hcc : behindB l c c = true := by
    obtain ⟨i, k, _, e1, e2, hi, hk, ha⟩ := behind_parts h
    exact behind_mk hm e1 e1 hi hi (above_refl hm hi)
  refine chain_of hm fun x y hx hy => ?_
  rcases List.mem_cons.1 hx with rfl | hx
  · rcases List.mem_cons.1 hy with rfl | hy
    · exact .inl hcc
    · rw [List.mem_singleton] at hy; subst hy; exact .inr h
  · rw [List.mem_singleton] at hx; subst hx
    rcases List.mem_cons.1 hy with rfl | hy
    · exact .inl h
    · rw [List.mem_singleton] at hy; subst hy; exact .inl (behind_self h)
/-! ### FinalBest -/
theorem law_best : (bestJ l js fin = fin ∨ (bestJ l js fin ∈ js ∧ behindB l (bestJ l js fin) fin = true ∧ fin.epoch.toNat ≤ (bestJ l js fin).epoch.toNat)) ∧ ∀ c, c ∈ js → behindB l c fin = true → c.epoch.toNat ≤ (bestJ l js fin).epoch.toNat := by
  obtain ⟨h, h2, h3⟩ := bestC_spec lessR (fun c => behindB l c fin) js fin
  exact ⟨h.imp id fun e => ⟨e.1, e.2, h2⟩, h3⟩
/-! ### FinalNone -/
theorem law_noneF : moreL l [] bal js = js ∧ finalsL l [] bal js = [] ∧ nextC l [] bal js fin = fin := by
  have h1 : moreL l [] bal js = js := by unfold moreL; split <;> rfl
  have h2 : finalsL l [] bal js = [] := by
    unfold finalsL
    split
    · unfold finalsT
      rw [List.filter_eq_nil_iff]
      intro c _
      unfold finalB
      simp
    · rfl
  refine ⟨h1, h2, ?_⟩
  unfold nextC
  rw [h2]; rfl
/-! ### FinalChain -/
def orB (l : List Nd) (a b : Ck) : Bool := behindB l a b || behindB l b a
theorem chainT_iff {cs : List Ck} : chainT l cs = true ↔ MayT l ∧ ∀ i, i < cs.length → ∀ k, k < i → orB l (ckAt cs i) (ckAt cs k) = true := by
  unfold chainT orB ckAt
  rw [Bool.and_eq_true, decide_eq_true_iff, decide_eq_true_iff]
  simp only [Bool.or_eq_true]
theorem ckAt_take {cs : List Ck} {n i : Nat} (h : i < n) : ckAt (cs.take n) i = ckAt cs i := by
  unfold ckAt
  rw [List.getD_eq_getElem?_getD, List.getD_eq_getElem?_getD, List.getElem?_take, if_pos h]
theorem ckAt_app {a b : List Ck} {i : Nat} (h : i < a.length) : ckAt (a ++ b) i = ckAt a i := by
  unfold ckAt
  rw [List.getD_eq_getElem?_getD, List.getD_eq_getElem?_getD, List.getElem?_append_left h]
theorem ckAt_last {a : List Ck} {x : Ck} : ckAt (a ++ [x]) a.length = x := by simp [ckAt]
/-- Each of the first n stands to one, this or that way round. -/
def allOr (l : List Nd) (cs : List Ck) (c : Ck) : Nat → Bool
  | 0 => true
  | n + 1 => allOr l cs c n && orB l (ckAt cs n) c
theorem allOr_iff {cs : List Ck} {c : Ck} : ∀ n, allOr l cs c n = true ↔ ∀ i, i < n → orB l (ckAt cs i) c = true
  | 0 => ⟨fun _ i hi => absurd hi (Nat.not_lt_zero _), fun _ => rfl⟩
  | n + 1 => by
    show (allOr l cs c n && orB l (ckAt cs n) c) = true ↔ _
    rw [Bool.and_eq_true, allOr_iff n]
    constructor
    · rintro ⟨h1, h2⟩ i hi
      rcases Nat.lt_succ_iff_lt_or_eq.1 hi with h | rfl
      · exact h1 i h
      · exact h2
    · intro h
      exact ⟨fun i hi => h i (by omega), h n (by omega)⟩
theorem orB_comm (a b : Ck) : orB l a b = orB l b a := by unfold orB; exact Bool.or_comm _ _
theorem law_chain (hm : MayT l) {cs : List Ck} {c : Ck} : (∀ n, chainT l cs = true → chainT l (cs.take n) = true) ∧ chainT l (cs ++ [c]) = (chainT l cs && allOr l cs c cs.length) ∧ chainT l [c] = true := by
  refine ⟨fun n h => ?_, ?_, ?_⟩
  · obtain ⟨_, h⟩ := chainT_iff.1 h
    refine chainT_iff.2 ⟨hm, fun i hi k hk => ?_⟩
    rw [List.length_take] at hi
    rw [ckAt_take (by omega), ckAt_take (by omega)]
    exact h i (by omega) k hk
  · rw [Bool.eq_iff_iff, Bool.and_eq_true, chainT_iff, chainT_iff, allOr_iff]
    constructor
    · rintro ⟨_, h⟩
      refine ⟨⟨hm, fun i hi k hk => ?_⟩, fun i hi => ?_⟩
      · have := h i (by rw [List.length_append]; omega) k hk
        rwa [ckAt_app hi, ckAt_app (by omega)] at this
      · have := h cs.length (by rw [List.length_append]; simp) i hi
        rwa [ckAt_last, ckAt_app hi, orB_comm] at this
    · rintro ⟨⟨_, h1⟩, h2⟩
      refine ⟨hm, fun i hi k hk => ?_⟩
      rw [List.length_append] at hi
      by_cases e : i < cs.length
      · rw [ckAt_app e, ckAt_app (by omega)]; exact h1 i e k hk
      · obtain rfl : i = cs.length := by simp at hi; omega
        rw [ckAt_last, ckAt_app hk, orB_comm]; exact h2 k hk
  · exact chainT_iff.2 ⟨hm, fun i hi k hk => by simp at hi; omega⟩
end
end Go.Proofs.Ytlhnjaeocoafnaa
namespace Go.Proofs.Ytlhnjaeocoafnaa
open Go.RowKit
set_option maxRecDepth 100000
structure SlV where
  p : Option Addr
  len : Nat
  cap : Nat
def sv (s : SlV) : Value := .slice s.p s.len s.cap
@[go_sem] theorem sv_mk (p : Option Addr) (n c : Nat) : sv ⟨p, n, c⟩ = .slice p n c := rfl
theorem slE_sv {α : Type} {E : Lie α} {w : World} {v : Value} {l : List α} (h : SlE E w v l) : ∃ s : SlV, v = sv s ∧ s.len = l.length := by
  obtain ⟨p, cap, e, _⟩ := slE_shape h
  exact ⟨⟨p, l.length, cap⟩, e, rfl⟩
end Go.Proofs.Ytlhnjaeocoafnaa
namespace Go.Proofs.Ytlhnjaeocoafnaa
open Go.RowKit
set_option maxRecDepth 100000
theorem info_cc : (Try.prog.info? 32).map (fun i => (i.zero, i.size, i.bytes)) = some (some (.agg (cc zcc)), 33, 40) := by kernel_rfl
theorem Kcc : Known Try.prog Ecc 27 := ⟨Try.underlying27, .agg (cc zcc), 40, info_cc, by show ((cc zcc)).size = _; exact cc_size _, by decide⟩
@[go_sem ↓] theorem slice_from_cc (ρ : Operand → Value) (dst : Option Tmp) (x lo : Operand) (ty : TypeId) (pos : String) (after : Array Edge) (guard : Option (Nat × Bool)) (w : World) :
    (execOp ρ { dst, op := .slice 27 x (some lo) none none, type := ty, pos, after, guard }).run Try.prog w = vOutE (cutFE 33 (ρ x) (ρ lo)) w (opRest Try.prog ρ { dst, op := .slice 27 x (some lo) none none, type := ty, pos, after, guard } w) :=
  slice_from_E Try.underlying27 Try.sizeOf32 ρ dst x lo ty pos after guard w
section
open Go.WideShapes Go.ChangeShapes
variable {H : Type} {enc : TypeId × Value → H} {w : World} {base : Nat} {sp : Nat → Bool} {held : Bool}
set_option maxRecDepth 100000 in
/-- A slice's one cell. -/
theorem cell_ccs {fuel : Nat} {v : Value} {x : DataW H × List MemPlace} (h : DataW.trod enc Try.prog w base sp held fuel 27 [v] = some x) : ∃ l : List Ck, SlE Ecc w v l :=
  cells_E Try.underlying27 cellsOf_cc (fun _ cs _ h => cells_cc (by obtain ⟨_, _, _, _, hl, _⟩ := DataW.trod_struct under_cc h; rw [hl, cellsOf_cc]) h) h
set_option maxRecDepth 100000 in
theorem cells_ccs {fuel : Nat} {cs : List Value} {x : DataW H × List MemPlace} (h : DataW.trod enc Try.prog w base sp held fuel 27 cs = some x) : ∃ s : SlV, cs = [sv s] ∧ ∃ l : List Ck, SlE Ecc w (sv s) l := by
  rcases Deep.open_slice Try.underlying27 h with ⟨h1, _⟩ | ⟨a', len', cap', _, _, _, _, h1, _⟩
  · subst h1
    exact ⟨⟨none, 0, 0⟩, rfl, [], slE_nil _ _ _ _⟩
  · subst h1
    exact ⟨⟨some a', len', cap'⟩, rfl, cell_ccs h⟩
set_option maxRecDepth 100000 in
theorem open_ccs {r : Reach} {b0 : Nat} {v : Value} {d : DataW H} {ps : List MemPlace} (hval : Value.okWide Try.prog w r b0 27 v) (hd : DataW.Trod enc Try.prog w base sp held 27 v d ps) : ∃ l : List Ck, SlE Ecc w v l := by
  obtain ⟨a, len, cap, rfl⟩ := okWide_slice Try.underlying27 hval
  obtain ⟨fuel, hf⟩ := hd
  exact cell_ccs hf
end
end Go.Proofs.Ytlhnjaeocoafnaa
namespace Go.Proofs.Ytlhnjaeocoafnaa
open Go.RowKit
set_option maxRecDepth 100000

section
variable {P : Program}
theorem results_agg2 {T : TypeId} {n : Nat} (hA : ∀ w, (isAgg T).run P w = .ok true w) (hS : ∀ w, (Go.sizeOf T).run P w = .ok n w) (fn : Func) (d e : Nat) (h : fn.results = #[.cell d T, .tmp e]) (tmps : Array Value) (w : World) (b : Nat) (c : Array Value) (v : Value) (hp : tmps.getD d undef = .pointer (some ⟨b, 0, none⟩)) (hv : tmps.getD e undef = v) (hl : ldA w (.pointer (some ⟨b, 0, none⟩)) n = some c) :
    (results fn tmps).run P w = .ok (.tuple #[.agg c, v]) w := by
  have hp' : tmps[d]?.getD undef = .pointer (some ⟨b, 0, none⟩) := by simpa using hp
  have hv' : tmps[e]?.getD undef = v := by simpa using hv
  simp [results, h, hp', hv', asAddr, run_loadVar_agg hA hS w b 0 c hl]
theorem results_agg3 {T : TypeId} {n : Nat} (hA : ∀ w, (isAgg T).run P w = .ok true w) (hS : ∀ w, (Go.sizeOf T).run P w = .ok n w) (fn : Func) (d e f : Nat) (h : fn.results = #[.cell d T, .tmp e, .tmp f]) (tmps : Array Value) (w : World) (b : Nat) (c : Array Value) (v u : Value) (hp : tmps.getD d undef = .pointer (some ⟨b, 0, none⟩)) (hv : tmps.getD e undef = v) (hu : tmps.getD f undef = u) (hl : ldA w (.pointer (some ⟨b, 0, none⟩)) n = some c) :
    (results fn tmps).run P w = .ok (.tuple #[.agg c, v, u]) w := by
  have hp' : tmps[d]?.getD undef = .pointer (some ⟨b, 0, none⟩) := by simpa using hp
  have hv' : tmps[e]?.getD undef = v := by simpa using hv
  have hu' : tmps[f]?.getD undef = u := by simpa using hu
  simp [results, h, hp', hv', hu', asAddr, run_loadVar_agg hA hS w b 0 c hl]
theorem results_agg1 {T : TypeId} {n : Nat} (hA : ∀ w, (isAgg T).run P w = .ok true w) (hS : ∀ w, (Go.sizeOf T).run P w = .ok n w) (fn : Func) (d : Nat) (h : fn.results = #[.cell d T]) (tmps : Array Value) (w : World) (b : Nat) (c : Array Value) (hp : tmps.getD d undef = .pointer (some ⟨b, 0, none⟩)) (hl : ldA w (.pointer (some ⟨b, 0, none⟩)) n = some c) :
    (results fn tmps).run P w = .ok (.agg c) w := by
  have hp' : tmps[d]?.getD undef = .pointer (some ⟨b, 0, none⟩) := by simpa using hp
  simp [results, h, hp', asAddr, run_loadVar_agg hA hS w b 0 c hl]
theorem results_agg22 {T U : TypeId} {n m : Nat} (hA : ∀ w, (isAgg T).run P w = .ok true w) (hS : ∀ w, (Go.sizeOf T).run P w = .ok n w) (hB : ∀ w, (isAgg U).run P w = .ok true w) (hU : ∀ w, (Go.sizeOf U).run P w = .ok m w) (fn : Func) (d e f : Nat) (h : fn.results = #[.cell d T, .cell e U, .tmp f]) (tmps : Array Value) (w : World) (b b2 : Nat) (c c2 : Array Value) (v : Value) (hp : tmps.getD d undef = .pointer (some ⟨b, 0, none⟩)) (hq : tmps.getD e undef = .pointer (some ⟨b2, 0, none⟩)) (hv : tmps.getD f undef = v) (hl : ldA w (.pointer (some ⟨b, 0, none⟩)) n = some c) (hl2 : ldA w (.pointer (some ⟨b2, 0, none⟩)) m = some c2) :
    (results fn tmps).run P w = .ok (.tuple #[.agg c, .agg c2, v]) w := by
  have hp' : tmps[d]?.getD undef = .pointer (some ⟨b, 0, none⟩) := by simpa using hp
  have hq' : tmps[e]?.getD undef = .pointer (some ⟨b2, 0, none⟩) := by simpa using hq
  have hv' : tmps[f]?.getD undef = v := by simpa using hv
  simp [results, h, hp', hq', hv', asAddr, run_loadVar_agg hA hS w b 0 c hl, run_loadVar_agg hB hU w b2 0 c2 hl2]
end
/-! ### A stretch in a new block -/
@[go_sem] theorem wrA_alloc_seg (w : World) (c : Array Value) (t : TypeId) (b o n : Nat) (h : b = w.heap.size) (hn : o + n ≤ c.size) : wrA (w.alloc (.cells c t)) (.pointer (some ⟨b, o, none⟩)) n = true := by
  subst h
  exact wrA_mid (heap_alloc_last w _) hn
@[go_sem] theorem stA_alloc_seg (w : World) (c r : Array Value) (t : TypeId) (b o : Nat) (h : b = w.heap.size) (_hlt : r.size < c.size) (hn : o + r.size ≤ c.size) : stA (w.alloc (.cells c t)) (.pointer (some ⟨b, o, none⟩)) (.agg r) = w.alloc (.cells (putSeg c o r) t) := by
  subst h
  show (w.alloc (.cells c t)).setCells w.heap.size o r.toList = _
  rw [setCells_alloc_list]
  congr 2
  apply Array.ext_getElem?
  intro j
  rw [foldl_set, putSeg_get hn]
  by_cases hj : o ≤ j ∧ j < o + r.size
  · rw [if_pos (by simp; omega), if_pos hj]; simp
  · rw [if_neg (by simp; omega), if_neg hj]
@[go_sem] theorem stA_drew (w : World) (v x : Value) : stA w.drew v x = (stA w v x).drew := stA_drewN w v x 1
/-- A row's own new block, written out. -/
theorem ownE_lit {α : Type} {E : Lie α} (w : World) (l : List α) (n : Nat) (hn : l.length = n) (hl : n ≤ maxLen) (c : Array Value) (hc : c.toList = cellsE E l) (b : Nat) (hb : b = w.heap.size) : OwnE E (w.alloc (.cells c E.t)) b (.slice (some ⟨b, 0, none⟩) n n) l := by
  subst hb hn
  have hs : c.size = l.length * E.n := by rw [← Array.length_toList, hc, cellsE_length]
  refine ⟨cellsE_length E l, .inr ⟨w.heap.size, l.length, c, rfl, Nat.le_refl _, heap_alloc_last w _, Nat.le_refl _, hl, hs, ?_⟩⟩
  rw [hc]
  exact List.take_of_length_le (by rw [cellsE_length]; exact Nat.le_refl _)
end Go.Proofs.Ytlhnjaeocoafnaa
namespace Go.Proofs.Ytlhnjaeocoafnaa
open Go.RowKit
set_option maxRecDepth 100000

theorem below1 {w : World} {o : Obj} : Below w.heap.size w (w.alloc o) := (Below.refl _ _).alloc (Nat.le_refl _) _
theorem blk_keep {w w' : World} {b : Nat} {o : Obj} (g : Below w.heap.size w w') (h : w.heap[b]? = some o) : w'.heap[b]? = some o := (g.block _ (Array.getElem?_eq_some_iff.1 h).1).trans h
theorem heap3 (w : World) (a b c : Array Value) (s t u : TypeId) (W : World) (hW : W = ((w.alloc (.cells a s)).alloc (.cells b t)).alloc (.cells c u)) : Below w.heap.size w W ∧ W.heap[w.heap.size]? = some (.cells a s (0, 0)) ∧ W.heap[w.heap.size + 1]? = some (.cells b t (0, 0)) ∧ W.heap[w.heap.size + 2]? = some (.cells c u (0, 0)) ∧ W.heap.size = w.heap.size + 3 := by
  subst hW
  have e1 : ∀ o : Obj, (w.alloc o).heap.size = w.heap.size + 1 := fun o => by simp
  have e2 : ∀ o o' : Obj, ((w.alloc o).alloc o').heap.size = w.heap.size + 2 := fun o o' => by simp
  refine ⟨belowT (belowT below1 below1) below1, ?_, ?_, ?_, by simp⟩
  · exact blk_keep below1 (blk_keep below1 (heap_alloc_last w _))
  · have := blk_keep (below1 (o := .cells c u)) (heap_alloc_last (w.alloc (.cells a s)) (.cells b t))
    rwa [e1] at this
  · have := heap_alloc_last ((w.alloc (.cells a s)).alloc (.cells b t)) (.cells c u)
    rwa [e2] at this
theorem heap2 (w : World) (a b : Array Value) (s t : TypeId) (W : World) (hW : W = (w.alloc (.cells a s)).alloc (.cells b t)) : Below w.heap.size w W ∧ W.heap[w.heap.size]? = some (.cells a s (0, 0)) ∧ W.heap[w.heap.size + 1]? = some (.cells b t (0, 0)) ∧ W.heap.size = w.heap.size + 2 := by
  subst hW
  have e1 : ∀ o : Obj, (w.alloc o).heap.size = w.heap.size + 1 := fun o => by simp
  refine ⟨belowT below1 below1, ?_, ?_, by simp⟩
  · exact blk_keep below1 (heap_alloc_last w _)
  · have := heap_alloc_last (w.alloc (.cells a s)) (.cells b t)
    rwa [e1] at this
theorem wd_cell {w : World} {g o : Nat} {v : Value} (h : w.cell? ⟨g, o, none⟩ = some v) (p : Wd w.drew) : p.w.cell? ⟨g, o, none⟩ = some v := (p.h.cell (p := ⟨g, o, none⟩) (block_lt_of_cell (show w.drew.cell? ⟨g, o, none⟩ = some v from h))).trans h
theorem wd_ld {w : World} {v : Value} {n : Nat} {c : Array Value} (h : ldA w v n = some c) (hn : 0 < n := by decide) (p : Wd w.drew) : ldA p.w v n = some c := ldA_wd (show ldA w.drew v n = _ by rw [ldA_drew]; exact h) hn p
theorem heap_putV {w : World} {g : Nat} {c r : Array Value} {t : TypeId} (hg : w.heap[g]? = some (.cells c t (0, 0))) (h : r.size = c.size) : (stA w (.pointer (some ⟨g, 0, none⟩)) (.agg r)).heap[g]? = some (.cells r t (0, 0)) := by
  rw [heap_stA_same hg (by omega)]
  congr 2
  apply Array.toList_inj.1
  unfold putSeg
  simp only [List.take_zero, List.nil_append, Nat.zero_add]
  rw [List.drop_of_length_le (by rw [Array.length_toList]; omega), List.append_nil]
end Go.Proofs.Ytlhnjaeocoafnaa
