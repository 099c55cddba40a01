/-
  append onto a row of the call's own, of as many elements as memory holds; for every program.
  append, a store of one cell, parts read below a bound: steps of XLexT's walk; for every program.
  A region that draws its order WITHIN A ROUND of a range over a function: one walk in the text's order serves every order there, too; for every program.
  A region that draws its order, walked by taking the operations that read in the text's order and by branching where effects may come up in either order; for every program.
-/
import Derived.Test.YtlhnjaeocoafnaaQ06
import Derived.Test.YtlhnjaeocoafnaaQ25
import Derived.Test.YtlhnjaeocoafnaaQ07
import Derived.Test.YtlhnjaeocoafnaaQ05
import Derived.OrdersIn
import Derived.RangeFuncCalls
namespace Go.Proofs.Ytlhnjaeocoafnaa
open Go.RowKit
set_option maxRecDepth 100000
section
variable {α : Type} {E : Lie α} {P : Program}
/-- What the program knows of the element's type, its bytes told. -/
structure KnownB (P : Program) (E : Lie α) (T : TypeId) (bytes : Nat) : Prop where
  slice : P.underlying T = some (.slice E.t)
  info : ∃ z : Value, (P.info? E.t).map (fun i => (i.zero, i.size, i.bytes)) = some (some z, E.n, bytes) ∧ z.cells.size = E.n
theorem run_append_B {T : TypeId} {bytes : Nat} (K : KnownB P E T bytes) (w : World) (ty : TypeId) (base : Nat) (v : Value) (k : List α) (hown : OwnE E w base v k) (vx : Value) (l : List α) (hsl : SlE E w vx l) (hlen : k.length + l.length ≤ maxLen) (hb : (k.length + l.length) * bytes ≤ 140737488355328) (hbase : base ≤ w.heap.size) :
    ∃ v' w', (Builtin.append_ #[T, T] ty #[v, vx]).run P w = .ok v' w' ∧ OwnE E w' base v' (k ++ l) ∧ Gr w v w' v' := by
  obtain ⟨z, hinf, hzs⟩ := K.info
  obtain ⟨i, hi, hz0, hz1, hz2⟩ := info_parts hinf
  by_cases hn : l = []
  · subst hn
    obtain ⟨p, cap, rfl, _⟩ := hsl
    exact ⟨v, w, run_append_noneE (P := P) (w := w) base T ty E.t i E.n K.slice hi v k.length _ hown p cap, by simpa using hown, Gr.refl _ _⟩
  · obtain ⟨b, off, cap, rfl, _, _, hc⟩ := slE_ne hsl (List.length_pos_iff.2 hn)
    obtain ⟨v', w', h1, h2, h3, _, h5⟩ := run_append_own_at (P := P) w base T ty E.t i z E.n bytes K.slice hi hz0 hz1 hz2 hzs E.pos v k.length (cellsE E k) hown ⟨b, off, none⟩ l.length cap (cellsE E l) (cellsE_length E l) (range_cells hc) (cellsE_one E l) hlen hb hbase
    refine ⟨v', w', h1, ?_, h3, h5.imp id fun e q hq => ?_⟩
    · unfold OwnE; rw [List.length_append, cellsE_append]; exact h2
    · rw [e] at hq; injection hq with hq; omega
theorem wpList_append_B {T : TypeId} {bytes : Nat} (K : KnownB P E T bytes) (w : World) {ops : Array Oper} {rest : List Oper} {o : Oper} {a : Act} {Q : Exit → Act → World → Prop} (hgd : o.guard = none) (s x : Operand)
    (ho : o.op = .call { callee := .builtin .append, args := #[s, x], argTypes := #[T, T] })
    (base : Nat) (v : Value) (k : List α) (hs : a.eval s = v) (hown : OwnE E w base v k) (vx : Value) (l : List α) (hx : a.eval x = vx) (hsl : SlE E w vx l)
    (hlen : k.length + l.length ≤ maxLen) (hb : (k.length + l.length) * bytes ≤ 140737488355328) (hbase : base ≤ w.heap.size)
    (h : ∀ v' w', OwnE E w' base v' (k ++ l) → Gr w v w' v' → wpList P ops Q rest (a.put o.dst v') w') : wpList P ops Q (o :: rest) a w :=
  wpList_plain hgd fun K' hK => by
    obtain ⟨v', w', hr, h2, h3⟩ := run_append_B K w o.type base v k hown vx l hsl hlen hb hbase
    unfold Oper.wp execOp
    simp only [ho, resolve, invoke, builtin, Sem.run_bind, Sem.run_pure, Result.andThen_ok, List.map_toArray, List.map_cons, List.map_nil, hs, hx, hr]
    exact hK _ _ (h v' w' h2 h3)
end
end Go.Proofs.Ytlhnjaeocoafnaa
namespace Go.Proofs.Ytlhnjaeocoafnaa
open Go.RowKit
set_option maxRecDepth 100000
section
variable {P : Program} {ops : Array Oper} {E S1 : List Nat} {W : World} {Q : Exit → Act → World → Prop}
/-- append onto a row of the call's own, as one of the last operations. -/
theorem wpXT_append {α : Type} {Ea : Lie α} {T : TypeId} {bytes : Nat} (K : KnownB P Ea T bytes) {B k : Nat} {o : Oper} {rest : List Oper} {a : Act} {w : World} {σ : List (Nat × World)} (hE : E.contains k = true) (hgd : o.guard = none) (hS : waitsAll ops S1 o = true) (s x : Operand)
    (ho : o.op = .call { callee := .builtin .append, args := #[s, x], argTypes := #[T, T] })
    (base : Nat) (v : Value) (ks : List α) (hs : a.eval s = v) (hown : OwnE Ea w base v ks) (vx : Value) (l : List α) (hx : a.eval x = vx) (hsl : SlE Ea w vx l)
    (hlen : ks.length + l.length ≤ maxLen) (hb : (ks.length + l.length) * bytes ≤ 140737488355328) (hbase : base ≤ w.heap.size) (hB : B ≤ base)
    (h : ∀ v' w', OwnE Ea w' base v' (ks ++ l) → Gr w v w' v' → wpXT (La B) (Lb B) S1 P ops E W Q (k + 1) rest (a.put o.dst v') w' ((k, w') :: σ)) : wpXT (La B) (Lb B) S1 P ops E W Q k (o :: rest) a w σ := by
  obtain ⟨v', w', hr, h2, h3⟩ := run_append_B K w o.type base v ks hown vx l hsl hlen hb hbase
  refine wpXT_eff hE (by simp [Region.wanted, hgd]) v' w' ?_ (relE_tail hS ((h3.own hown hbase).mono hB)) (h v' w' h2 h3)
  unfold execOp
  simp only [ho, resolve, invoke, builtin, Sem.run_bind, Sem.run_pure, Result.andThen_ok, List.map_toArray, List.map_cons, List.map_nil, hs, hx, hr]
end
/-- Read below B, in a world of the class. -/
theorem wdB_ld {B : Nat} {w : World} {b o n : Nat} {c : Array Value} (h : ldA w (.pointer (some ⟨b, o, none⟩)) n = some c) (hb : b < B) (p : WdB B w.drew) : ldA p.w (.pointer (some ⟨b, o, none⟩)) n = some c :=
  (ldA_below p.h b o n hb).trans (by rw [ldA_drew]; exact h)
theorem wdB_cell {B : Nat} {w : World} {b o : Nat} {v : Value} (h : w.cell? ⟨b, o, none⟩ = some v) (hb : b < B) (p : WdB B w.drew) : p.w.cell? ⟨b, o, none⟩ = some v := (p.h.cell (p := ⟨b, o, none⟩) hb).trans h
theorem put_whole' {w : World} {b n : Nat} {c c' : Array Value} {t : TypeId} (hg : w.heap[b]? = some (.cells c t (0, 0))) (hn : c.size = n) (hn' : c'.size = n) : ldA (stA w (.pointer (some ⟨b, 0, none⟩)) (.agg c')) (.pointer (some ⟨b, 0, none⟩)) n = some c' :=
  ldA_stA_same (wrA_block hg hn) hn'
/-- A slice elsewhere than in a block that is stored into whole. -/
theorem slE_stA' {α : Type} {E : Lie α} {w : World} {v x : Value} {l : List α} {b : Nat} (h : SlE E w v l) (hb : v.ownBlock ≠ some b) : SlE E (stA w (.pointer (some ⟨b, 0, none⟩)) x) v l :=
  slE_block h (by rw [size_stA]; exact Nat.le_refl _) (fun k _ hk => heap_stA (fun e => hb (by rw [hk, e])))
theorem slE_set' {α : Type} {E : Lie α} {w : World} {v x : Value} {l : List α} {b o : Nat} (h : SlE E w v l) (hb : v.ownBlock ≠ some b) : SlE E (w.setCell ⟨b, o, none⟩ x) v l :=
  slE_block h (Nat.le_of_eq (by simp [World.setCell])) (fun k _ hk => by rw [Below.heap_setCell _ _ _ _ (fun e => hb (by rw [hk, e]))])
end Go.Proofs.Ytlhnjaeocoafnaa
namespace Go.Proofs.Ytlhnjaeocoafnaa
open Go.RowKit
set_option maxRecDepth 100000
section
variable {P : Program} {ops : Array Oper} {Q : Exit → Act → World → Prop} {md : Region.Mode} {lo n : Nat}
def noDefer (ops : Array Oper) : Bool := ops.all fun o => match o.op with | .defer _ => false | _ => true
theorem noDefer_spec (h : noDefer ops = true) {i : Nat} {o : Oper} (hi : ops[i]? = some o) : ∀ c, o.op ≠ .defer c := by
  intro c e
  obtain ⟨hl, rfl⟩ := Array.getElem?_eq_some_iff.1 hi
  have := Array.all_eq_true.1 h i hl
  rw [e] at this
  cases this
theorem uponIn_plain {o : Oper} {a : Act} {K : Act → World → Prop} {r : Result Next} (h : o.upon P a K Q r) : o.uponIn (Fence.wide.inRound lo) n P a K Q r := by
  cases r with
  | ok x w' =>
    cases x with
    | value v => exact h
    | skip => exact h
    | defer d => exact h
    | enter f args => exact ⟨fun h => (by cases h), CallsIn.inRound lo (callsIn_wide.2 h)⟩
    | row row args => exact ⟨fun h => (by cases h), fun c cs _ => let ⟨v, w'', r, s⟩ := h c cs; ⟨v, w'', r, stepsIn_wide.2 s⟩⟩
    | round l f tmps assign body => exact h.elim
    | _ => exact h.elim
  | halt x w' =>
    cases x with
    | panic v => exact h
    | _ => exact h.elim
theorem wpOpIn_plain (hQ : ¬ LetsOut Q) (hd : noDefer ops = true) {i : Nat} {K K' : Act → World → Prop} {a : Act} {w : World} (hk : ∀ a w, K a w → K' a w) (h : wpOp P ops Q i K a w) : wpOpIn (Fence.wide.inRound lo) n P ops Q i K' a w := by
  refine wpOpIn_mono hk ?_
  unfold wpOp at h
  unfold wpOpIn
  split
  · rename_i e
    simp only [e] at h
    exact h
  · rename_i o e
    simp only [e] at h
    split
    · rename_i hw
      rw [if_pos hw] at h
      have h := h.resolve_right fun x => hQ x.2
      unfold Oper.wpIn
      refine ⟨fun _ _ => trivial, ?_⟩
      rw [Oper.semAt_eq _ _ _ (noDefer_spec hd e)]
      exact uponIn_plain h
    · rename_i hw
      rw [if_neg hw] at h
      exact ⟨fun _ _ => trivial, h⟩
theorem wpAnyIn_plain (hQ : ¬ LetsOut Q) (hd : noDefer ops = true) : ∀ (fuel : Nat) (listed : Array Bool) (a : Act) (w : World), wpAny P md ops Q fuel listed a w → wpAnyIn (Fence.wide.inRound lo) n P md ops Q fuel listed a w
  | 0, _, _, _, h => h
  | fuel + 1, _, _, _, h => ⟨h.1, fun i hi => wpOpIn_plain hQ hd (fun _ _ hk => wpAnyIn_plain hQ hd fuel _ _ _ hk) (h.2 i hi)⟩
/-- What stands behind a region that runs through. -/
def Thru (Q : Exit → Act → World → Prop) (e : Exit) (a : Act) (w : World) : Prop := e = .normal ∧ Q .normal a w
theorem thru_out : ¬ LetsOut (Thru Q) := fun ⟨_, _, h, _⟩ => by cases h
/-- 'region_lex' in a round. -/
theorem region_lexR {L : World → World → Prop} (lr : ∀ w, L w w) (lt : ∀ {a b c : World}, L a b → L b c → L a c) (E : List Nat) {id : Nat} {a : Act} {w : World} {l : List Oper} (hd : noDefer l.toArray = true) (hm : P.follows .mixedOrders = true) (hB : Region.lexB .any l.toArray = true) (hc : chainB l.toArray E = true)
    (h : wpXL L P l.toArray E w.drew (Thru Q) 0 l a w.drew []) : (Code.region id l.toArray true).wpIn (Fence.wide.inRound lo) n P Q a w := by
  simp only [Region.lexB, Bool.and_eq_true] at hB
  refine wpIn_mono (Q := Thru Q) (wpIn_region_any hm (wpAnyIn_plain thru_out hd _ _ _ _ (wpAny_of_X (L := L) lr lt (E := E) (W := w.drew) _ _ _ _ [] ⟨lr _, by simp⟩ ?_))) (fun e a w hh => by obtain ⟨rfl, hh⟩ := hh; exact hh)
  have hd : DC l.toArray (Array.replicate l.toArray.size false) := fun k o _ hl => by
    rw [Array.getD_eq_getD_getElem?, Array.getElem?_replicate] at hl
    split at hl <;> simp at hl
  have := wpX_lex (P := P) (L := L) lr lt (E := E) (W := w.drew) (Q := Thru Q) hB.1 hc l 0 (Array.replicate l.toArray.size false) a w.drew [] ⟨lr _, by simp⟩ hd (by simp) (by simpa using hB.2) h
  simpa using this
/-- 'wp_region_lex' in a round (at the wide fence): the end is 'wpXL_nil ⟨rfl, ?_⟩'. -/
theorem wpIn_region_lexR (E : List Nat) {id : Nat} {a : Act} {w : World} {l : List Oper} (hd : noDefer l.toArray = true) (hm : P.follows .mixedOrders = true) (hB : Region.lexB .any l.toArray = true) (hc : chainB l.toArray E = true)
    (h : wpXL Lq P l.toArray E w.drew (Thru Q) 0 l a w.drew []) : (Code.region id l.toArray true).wpIn (Fence.wide.inRound lo) n P Q a w := region_lexR Lq.refl (fun h k => Lq.trans h k) E hd hm hB hc h
/-- A call of a Go function in a round, by its plain contract. -/
theorem calls_round {f : FuncId} {args : Array Value} {w : World} {R : Ending → World → Prop} (h : Calls P f args w R) : CallsIn (Fence.wide.inRound lo) n P f args w R := CallsIn.inRound lo (callsIn_wide.2 h)
end
end Go.Proofs.Ytlhnjaeocoafnaa
namespace Go.Proofs.Ytlhnjaeocoafnaa
open Go.RowKit
set_option maxRecDepth 100000
section
variable {P : Program} {ops : Array Oper} {E S1 : List Nat} {W : World} {Q : Exit → Act → World → Prop} {B fuel : Nat} {listed : Array Bool} {a : Act} {w : World} {σ : List (Nat × World)}

/-- Whatever order is picked from here on, in a world that may be. -/
def GX (B : Nat) (S1 : List Nat) (P : Program) (ops : Array Oper) (E : List Nat) (W : World) (Q : Exit → Act → World → Prop) (fuel : Nat) (listed : Array Bool) (a : Act) (w : World) (σ : List (Nat × World)) : Prop :=
  Inv2 (La B) (Lb B) ops S1 W listed σ w → wpX2 (La B) (Lb B) S1 P ops E W Q fuel listed a w σ
theorem GX.start {l : List Oper} (h : GX B S1 P l.toArray E w.drew Q l.length (Array.replicate l.length false) a w.drew []) : wpAny P .any l.toArray Q l.toArray.size (Array.replicate l.toArray.size false) a w.drew := by
  have hd : DC l.toArray (Array.replicate l.length false) := fun k o _ hl => by
    rw [Array.getD_eq_getD_getElem?, Array.getElem?_replicate] at hl
    split at hl <;> simp at hl
  have hI : Inv2 (La B) (Lb B) l.toArray S1 w.drew (Array.replicate l.length false) [] w.drew := ⟨hd, ⟨(two B).r2 _, by simp⟩, fun _ => ⟨(two B).r1 _, by simp⟩⟩
  have := wpAny_of_X2 (two B) (S1 := S1) (E := E) (W := w.drew) l.length _ _ _ [] hI (h hI)
  rw [List.size_toArray]
  exact this
theorem wp_region_G (B : Nat) (S1 E : List Nat) {id : Nat} {l : List Oper} (hm : P.follows .mixedOrders = true) (h : GX B S1 P l.toArray E w.drew Q l.length (Array.replicate l.length false) a w.drew []) : (Code.region id l.toArray true).wp P Q a w :=
  wp_region_any hm h.start
/-- The same in a round of a range over a function: the end is 'GX.nil .. ⟨rfl, ?_⟩'. -/
theorem wpIn_region_G {lo n : Nat} (B : Nat) (S1 E : List Nat) {id : Nat} {l : List Oper} (hd : noDefer l.toArray = true) (hm : P.follows .mixedOrders = true) (h : GX B S1 P l.toArray E w.drew (Thru Q) l.length (Array.replicate l.length false) a w.drew []) : (Code.region id l.toArray true).wpIn (Fence.wide.inRound lo) n P Q a w :=
  wpIn_mono (Q := Thru Q) (wpIn_region_any hm (wpAnyIn_plain thru_out hd _ _ _ _ h.start)) (fun e a w hh => by obtain ⟨rfl, hh⟩ := hh; exact hh)
theorem at_drop {l : List Oper} {i : Nat} {o : Oper} {rest : List Oper} (h : l.drop i = o :: rest) : l.toArray[i]? = some o := by
  rw [List.getElem?_toArray, ← Nat.add_zero i, ← List.getElem?_drop, h]
  rfl
theorem GX.nil (hr : Region.ready .any ops listed = []) (h : Q .normal a w) : GX B S1 P ops E W Q 0 listed a w σ := fun _ => ⟨hr, h⟩

/-! ### An operation that reads -/
theorem GX.takeC {i : Nat} {o : Oper} (hi : ops[i]? = some o) (hE : E.contains i = false) (hs : Region.noSelect ops = true) (hr : (Region.ready .any ops listed).contains i = true) (hf : Region.free .any ops listed i = true) (hp : plainOp o.op = true) (C : World → Prop) (h0 : ∀ w', cls2 (La B) (Lb B) S1 W σ i o w' → C w')
    (h : wpQuiet P ops C (fun a' => GX B S1 P ops E W Q fuel (listed.setIfInBounds i true) a' w σ) [o] a) : GX B S1 P ops E W Q (fuel + 1) listed a w σ := by
  intro hv
  have hr' : i ∈ Region.ready .any ops listed := by simpa using hr
  unfold wpQuiet at h
  by_cases hw : Region.wanted o (yielded ops a.tmps) = true
  · rw [if_pos hw] at h
    obtain ⟨v, h1, h2⟩ := h
    refine wpX2_first (two B) hi (Region.noSelect_spec hs) fuel listed a w σ hv (Region.free_spec hi hf) hr' (.inl hE) (.inl ⟨hw, fun w' hw' => ?_⟩) (h2 (hv.step hr'))
    have := h1 w' (h0 w' hw')
    unfold Oper.quietAt at this
    unfold valAt
    have hne := fun f args w'' => plain_no_enter (P := P) hp (ρ := a.eval) (w := w') (w' := w'') (f := f) (args := args)
    generalize (execOp a.eval o).run P w' = r at *
    cases r with
    | ok n w1 =>
      cases n <;> simp only [Oper.quietUpon] at this
      case value u => obtain ⟨rfl, rfl⟩ := this; exact .inl rfl
      case skip => obtain ⟨rfl, rfl⟩ := this; exact .inr ⟨rfl, rfl⟩
      case enter f args => exact absurd rfl (hne f args w1)
    | halt x w1 => simp only [Oper.quietUpon] at this
  · rw [if_neg hw] at h
    have hw' : Region.wanted o (yielded ops a.tmps) = false := by simpa using hw
    exact wpX2_first (two B) hi (Region.noSelect_spec hs) fuel listed a w σ hv (Region.free_spec hi hf) hr' (.inr hw') (.inr ⟨hw', rfl⟩) (h (hv.step hr'))
/-- One of S1. -/
theorem GX.take1 (i : Nat) {l : List Oper} {o : Oper} {tl : List Oper} (hi : l.drop i = o :: tl) (hE : E.contains i = false) (hS : S1.contains i = true) (hs : Region.noSelect l.toArray = true) (hr : (Region.ready .any l.toArray listed).contains i = true) (hf : Region.free .any l.toArray listed i = true) (hp : plainOp o.op = true) (hW : B ≤ W.heap.size)
    (h : wpQuiet P l.toArray (fun w' => ∃ p : Wd W, w' = p.w) (fun a' => GX B S1 P l.toArray E W Q fuel (listed.setIfInBounds i true) a' w σ) [o] a) : GX B S1 P l.toArray E W Q (fuel + 1) listed a w σ :=
  GX.takeC (at_drop hi) hE hs hr hf hp _ (fun w' hw' => ⟨⟨w', by have := hw'.1; unfold relC at this; rw [if_pos hS] at this; exact this hW⟩, rfl⟩) h
/-- One that reads below B. -/
theorem GX.take2 (i : Nat) {l : List Oper} {o : Oper} {tl : List Oper} (hi : l.drop i = o :: tl) (hE : E.contains i = false) (hS : S1.contains i = false) (hs : Region.noSelect l.toArray = true) (hr : (Region.ready .any l.toArray listed).contains i = true) (hf : Region.free .any l.toArray listed i = true) (hp : plainOp o.op = true) (hW : B ≤ W.heap.size)
    (h : wpQuiet P l.toArray (fun w' => ∃ p : WdB B W, w' = p.w) (fun a' => GX B S1 P l.toArray E W Q fuel (listed.setIfInBounds i true) a' w σ) [o] a) : GX B S1 P l.toArray E W Q (fuel + 1) listed a w σ :=
  GX.takeC (at_drop hi) hE hs hr hf hp _ (fun w' hw' => ⟨⟨w', by have := hw'.1; unfold relC at this; rw [hS, if_neg Bool.false_ne_true] at this; exact (this hW).1⟩, rfl⟩) h

/-! ### Effects -/
theorem GX.branch1 (i : Nat) (hr : Region.ready .any ops listed = [i]) (h : xOp2 (La B) (Lb B) S1 P ops E W i (fun a' w' σ' => GX B S1 P ops E W Q fuel (listed.setIfInBounds i true) a' w' σ') a w σ) : GX B S1 P ops E W Q (fuel + 1) listed a w σ := by
  intro hv
  refine ⟨fun e => (by rw [hr] at e; cases e), fun k hk => ?_⟩
  have hk' := hk
  rw [hr, List.mem_singleton] at hk
  subst hk
  exact xOp2_mono (two B) hv hk' (fun _ _ _ hv' hk => hk hv') h
theorem GX.branch2 (i j : Nat) (hr : Region.ready .any ops listed = [i, j]) (h : xOp2 (La B) (Lb B) S1 P ops E W i (fun a' w' σ' => GX B S1 P ops E W Q fuel (listed.setIfInBounds i true) a' w' σ') a w σ) (h' : xOp2 (La B) (Lb B) S1 P ops E W j (fun a' w' σ' => GX B S1 P ops E W Q fuel (listed.setIfInBounds j true) a' w' σ') a w σ) : GX B S1 P ops E W Q (fuel + 1) listed a w σ := by
  intro hv
  refine ⟨fun e => (by rw [hr] at e; cases e), fun k hk => ?_⟩
  have hk' := hk
  rw [hr, List.mem_cons, List.mem_singleton] at hk
  rcases hk with rfl | rfl
  · exact xOp2_mono (two B) hv hk' (fun _ _ _ hv' hk => hk hv') h
  · exact xOp2_mono (two B) hv hk' (fun _ _ _ hv' hk => hk hv') h'
variable {K : Act → World → List (Nat × World) → Prop}
theorem xOp_eff {i : Nat} {lo : List Oper} {o : Oper} {tl : List Oper} (hi : lo.drop i = o :: tl) (hE : E.contains i = true) (hw : Region.wanted o (yielded lo.toArray a.tmps) = true) (v : Value) (w' : World) (hrun : (execOp a.eval o).run P w = .ok (.value v) w') (hl : relE (La B) (Lb B) lo.toArray S1 o w w') (h : K (a.put o.dst v) w' ((i, w') :: σ)) : xOp2 (La B) (Lb B) S1 P lo.toArray E W i K a w σ := by
  unfold xOp2
  simp only [at_drop hi]
  rw [if_pos hw, if_pos hE]
  unfold effAt
  rw [hrun]
  exact ⟨hl, h⟩
theorem xOp_store {i : Nat} {lo : List Oper} {o : Oper} {tl : List Oper} (hi : lo.drop i = o :: tl) (hE : E.contains i = true) (hw : Region.wanted o (yielded lo.toArray a.tmps) = true) (w' : World) (hrun : (execOp a.eval o).run P w = .ok .skip w') (hl : relE (La B) (Lb B) lo.toArray S1 o w w') (h : K (a.put o.dst undef) w' ((i, w') :: σ)) : xOp2 (La B) (Lb B) S1 P lo.toArray E W i K a w σ := by
  unfold xOp2
  simp only [at_drop hi]
  rw [if_pos hw, if_pos hE]
  unfold effAt
  rw [hrun]
  exact ⟨hl, h⟩
theorem xOp_call {i : Nat} {lo : List Oper} {o : Oper} {tl : List Oper} (hi : lo.drop i = o :: tl) (hE : E.contains i = true) (hw : Region.wanted o (yielded lo.toArray a.tmps) = true) {f : FuncId} {xs : Array Operand} {ts : Array TypeId}
    (ho : o.op = .call { callee := .value (.func f), args := xs, argTypes := ts }) (hen : ∀ args w, (callFunc f args).run P w = .ok (.enter f args) w)
    (args : Array Value) (hargs : xs.toList.map a.eval = args.toList) (h : Calls P f args w fun e w' => ∃ v, e = .returned v ∧ Below w.heap.size w w' ∧ K (a.put o.dst v) w' ((i, w') :: σ)) : xOp2 (La B) (Lb B) S1 P lo.toArray E W i K a w σ := by
  unfold xOp2
  simp only [at_drop hi]
  rw [if_pos hw, if_pos hE]
  unfold effAt
  have hargs : xs.map a.eval = args := Array.toList_inj.1 (by rw [Array.toList_map]; exact hargs)
  subst hargs
  have : (execOp a.eval o).run P w = .ok (.enter f (xs.map a.eval)) w := by
    unfold execOp
    simp [ho, resolve, invoke, Act.eval, Deferred.ofValue, hen]
  rw [this]
  exact Calls.mono h fun e w' ⟨v, he, hb, hk⟩ => ⟨v, he, relE_lq hb, hk⟩
/-- append: onto a row that the region itself has made, or (hS) as one of the last operations. -/
theorem xOp_append {α : Type} {Ea : Lie α} {T : TypeId} {bytes : Nat} (Kb : KnownB P Ea T bytes) {i : Nat} {lo : List Oper} {o : Oper} {tl : List Oper} (hi : lo.drop i = o :: tl) (hE : E.contains i = true) (hgd : o.guard = none) (s x : Operand)
    (ho : o.op = .call { callee := .builtin .append, args := #[s, x], argTypes := #[T, T] })
    (base : Nat) (v : Value) (ks : List α) (hs : a.eval s = v) (hown : OwnE Ea w base v ks) (vx : Value) (l : List α) (hx : a.eval x = vx) (hsl : SlE Ea w vx l)
    (hlen : ks.length + l.length ≤ maxLen) (hb : (ks.length + l.length) * bytes ≤ 140737488355328) (hbase : base ≤ w.heap.size) (hl : ∀ w', Below base w w' → relE (La B) (Lb B) lo.toArray S1 o w w')
    (h : ∀ v' w', OwnE Ea w' base v' (ks ++ l) → Gr w v w' v' → K (a.put o.dst v') w' ((i, w') :: σ)) : xOp2 (La B) (Lb B) S1 P lo.toArray E W i K a w σ := by
  obtain ⟨v', w', hr, h2, h3⟩ := run_append_B Kb w o.type base v ks hown vx l hsl hlen hb hbase
  refine xOp_eff hi hE (by simp [Region.wanted, hgd]) v' w' ?_ (hl w' (h3.own hown hbase)) (h v' w' h2 h3)
  unfold execOp
  simp only [ho, resolve, invoke, builtin, Sem.run_bind, Sem.run_pure, Result.andThen_ok, List.map_toArray, List.map_cons, List.map_nil, hs, hx, hr]
attribute [irreducible] GX
end
end Go.Proofs.Ytlhnjaeocoafnaa
