/-
  A region that draws its order, walked by taking the operations that read in the text's order and by branching where effects may come up in either order; for every program.
  A uint64 that comes in, as a number of that kind.
-/
import Derived.Test.YtkbifcfgcokmlaaQ21
import Derived.Test.YtkbifcfgcokmlaaQ05
namespace Go.Proofs.Ytkbifcfgcokmlaa
open Go.RowKit
set_option maxRecDepth 100000
section
variable {P : Program} {ops : Array Oper} {E S1 : List Nat} {W : World} {Q : Exit → Act → World → Prop} {B fuel : Nat} {listed : Array Bool} {a : Act} {w : World} {σ : List (Nat × World)}

/-- Whatever order is picked from here on, in a world that may be. -/
def GX (B : Nat) (S1 : List Nat) (P : Program) (ops : Array Oper) (E : List Nat) (W : World) (Q : Exit → Act → World → Prop) (fuel : Nat) (listed : Array Bool) (a : Act) (w : World) (σ : List (Nat × World)) : Prop :=
  Inv2 (La B) (Lb B) ops S1 W listed σ w → wpX2 (La B) (Lb B) S1 P ops E W Q fuel listed a w σ
theorem GX.start {l : List Oper} (h : GX B S1 P l.toArray E w.drew Q l.length (Array.replicate l.length false) a w.drew []) : wpAny P .any l.toArray Q l.toArray.size (Array.replicate l.toArray.size false) a w.drew := by
  have hd : DC l.toArray (Array.replicate l.length false) := fun k o _ hl => by
    rw [Array.getD_eq_getD_getElem?, Array.getElem?_replicate] at hl
    split at hl <;> simp at hl
  have hI : Inv2 (La B) (Lb B) l.toArray S1 w.drew (Array.replicate l.length false) [] w.drew := ⟨hd, ⟨(two B).r2 _, by simp⟩, fun _ => ⟨(two B).r1 _, by simp⟩⟩
  have := wpAny_of_X2 (two B) (S1 := S1) (E := E) (W := w.drew) l.length _ _ _ [] hI (h hI)
  rw [List.size_toArray]
  exact this
theorem wp_region_G (B : Nat) (S1 E : List Nat) {id : Nat} {l : List Oper} (hm : P.follows .mixedOrders = true) (h : GX B S1 P l.toArray E w.drew Q l.length (Array.replicate l.length false) a w.drew []) : (Code.region id l.toArray true).wp P Q a w :=
  wp_region_any hm h.start
/-- The same in a round of a range over a function: the end is 'GX.nil .. ⟨rfl, ?_⟩'. -/
theorem wpIn_region_G {lo n : Nat} (B : Nat) (S1 E : List Nat) {id : Nat} {l : List Oper} (hd : noDefer l.toArray = true) (hm : P.follows .mixedOrders = true) (h : GX B S1 P l.toArray E w.drew (Thru Q) l.length (Array.replicate l.length false) a w.drew []) : (Code.region id l.toArray true).wpIn (Fence.wide.inRound lo) n P Q a w :=
  wpIn_mono (Q := Thru Q) (wpIn_region_any hm (wpAnyIn_plain thru_out hd _ _ _ _ h.start)) (fun e a w hh => by obtain ⟨rfl, hh⟩ := hh; exact hh)
theorem at_drop {l : List Oper} {i : Nat} {o : Oper} {rest : List Oper} (h : l.drop i = o :: rest) : l.toArray[i]? = some o := by
  rw [List.getElem?_toArray, ← Nat.add_zero i, ← List.getElem?_drop, h]
  rfl
theorem GX.nil (hr : Region.ready .any ops listed = []) (h : Q .normal a w) : GX B S1 P ops E W Q 0 listed a w σ := fun _ => ⟨hr, h⟩

/-! ### An operation that reads -/
theorem GX.takeC {i : Nat} {o : Oper} (hi : ops[i]? = some o) (hE : E.contains i = false) (hs : Region.noSelect ops = true) (hr : (Region.ready .any ops listed).contains i = true) (hf : Region.free .any ops listed i = true) (hp : plainOp o.op = true) (C : World → Prop) (h0 : ∀ w', cls2 (La B) (Lb B) S1 W σ i o w' → C w')
    (h : wpQuiet P ops C (fun a' => GX B S1 P ops E W Q fuel (listed.setIfInBounds i true) a' w σ) [o] a) : GX B S1 P ops E W Q (fuel + 1) listed a w σ := by
  intro hv
  have hr' : i ∈ Region.ready .any ops listed := by simpa using hr
  unfold wpQuiet at h
  by_cases hw : Region.wanted o (yielded ops a.tmps) = true
  · rw [if_pos hw] at h
    obtain ⟨v, h1, h2⟩ := h
    refine wpX2_first (two B) hi (Region.noSelect_spec hs) fuel listed a w σ hv (Region.free_spec hi hf) hr' (.inl hE) (.inl ⟨hw, fun w' hw' => ?_⟩) (h2 (hv.step hr'))
    have := h1 w' (h0 w' hw')
    unfold Oper.quietAt at this
    unfold valAt
    have hne := fun f args w'' => plain_no_enter (P := P) hp (ρ := a.eval) (w := w') (w' := w'') (f := f) (args := args)
    generalize (execOp a.eval o).run P w' = r at *
    cases r with
    | ok n w1 =>
      cases n <;> simp only [Oper.quietUpon] at this
      case value u => obtain ⟨rfl, rfl⟩ := this; exact .inl rfl
      case skip => obtain ⟨rfl, rfl⟩ := this; exact .inr ⟨rfl, rfl⟩
      case enter f args => exact absurd rfl (hne f args w1)
    | halt x w1 => simp only [Oper.quietUpon] at this
  · rw [if_neg hw] at h
    have hw' : Region.wanted o (yielded ops a.tmps) = false := by simpa using hw
    exact wpX2_first (two B) hi (Region.noSelect_spec hs) fuel listed a w σ hv (Region.free_spec hi hf) hr' (.inr hw') (.inr ⟨hw', rfl⟩) (h (hv.step hr'))
/-- One of S1. -/
theorem GX.take1 (i : Nat) {l : List Oper} {o : Oper} {tl : List Oper} (hi : l.drop i = o :: tl) (hE : E.contains i = false) (hS : S1.contains i = true) (hs : Region.noSelect l.toArray = true) (hr : (Region.ready .any l.toArray listed).contains i = true) (hf : Region.free .any l.toArray listed i = true) (hp : plainOp o.op = true) (hW : B ≤ W.heap.size)
    (h : wpQuiet P l.toArray (fun w' => ∃ p : Wd W, w' = p.w) (fun a' => GX B S1 P l.toArray E W Q fuel (listed.setIfInBounds i true) a' w σ) [o] a) : GX B S1 P l.toArray E W Q (fuel + 1) listed a w σ :=
  GX.takeC (at_drop hi) hE hs hr hf hp _ (fun w' hw' => ⟨⟨w', by have := hw'.1; unfold relC at this; rw [if_pos hS] at this; exact this hW⟩, rfl⟩) h
/-- One that reads below B. -/
theorem GX.take2 (i : Nat) {l : List Oper} {o : Oper} {tl : List Oper} (hi : l.drop i = o :: tl) (hE : E.contains i = false) (hS : S1.contains i = false) (hs : Region.noSelect l.toArray = true) (hr : (Region.ready .any l.toArray listed).contains i = true) (hf : Region.free .any l.toArray listed i = true) (hp : plainOp o.op = true) (hW : B ≤ W.heap.size)
    (h : wpQuiet P l.toArray (fun w' => ∃ p : WdB B W, w' = p.w) (fun a' => GX B S1 P l.toArray E W Q fuel (listed.setIfInBounds i true) a' w σ) [o] a) : GX B S1 P l.toArray E W Q (fuel + 1) listed a w σ :=
  GX.takeC (at_drop hi) hE hs hr hf hp _ (fun w' hw' => ⟨⟨w', by have := hw'.1; unfold relC at this; rw [hS, if_neg Bool.false_ne_true] at this; exact (this hW).1⟩, rfl⟩) h

/-! ### Effects -/
theorem GX.branch1 (i : Nat) (hr : Region.ready .any ops listed = [i]) (h : xOp2 (La B) (Lb B) S1 P ops E W i (fun a' w' σ' => GX B S1 P ops E W Q fuel (listed.setIfInBounds i true) a' w' σ') a w σ) : GX B S1 P ops E W Q (fuel + 1) listed a w σ := by
  intro hv
  refine ⟨fun e => (by rw [hr] at e; cases e), fun k hk => ?_⟩
  have hk' := hk
  rw [hr, List.mem_singleton] at hk
  subst hk
  exact xOp2_mono (two B) hv hk' (fun _ _ _ hv' hk => hk hv') h
theorem GX.branch2 (i j : Nat) (hr : Region.ready .any ops listed = [i, j]) (h : xOp2 (La B) (Lb B) S1 P ops E W i (fun a' w' σ' => GX B S1 P ops E W Q fuel (listed.setIfInBounds i true) a' w' σ') a w σ) (h' : xOp2 (La B) (Lb B) S1 P ops E W j (fun a' w' σ' => GX B S1 P ops E W Q fuel (listed.setIfInBounds j true) a' w' σ') a w σ) : GX B S1 P ops E W Q (fuel + 1) listed a w σ := by
  intro hv
  refine ⟨fun e => (by rw [hr] at e; cases e), fun k hk => ?_⟩
  have hk' := hk
  rw [hr, List.mem_cons, List.mem_singleton] at hk
  rcases hk with rfl | rfl
  · exact xOp2_mono (two B) hv hk' (fun _ _ _ hv' hk => hk hv') h
  · exact xOp2_mono (two B) hv hk' (fun _ _ _ hv' hk => hk hv') h'
variable {K : Act → World → List (Nat × World) → Prop}
theorem xOp_eff {i : Nat} {lo : List Oper} {o : Oper} {tl : List Oper} (hi : lo.drop i = o :: tl) (hE : E.contains i = true) (hw : Region.wanted o (yielded lo.toArray a.tmps) = true) (v : Value) (w' : World) (hrun : (execOp a.eval o).run P w = .ok (.value v) w') (hl : relE (La B) (Lb B) lo.toArray S1 o w w') (h : K (a.put o.dst v) w' ((i, w') :: σ)) : xOp2 (La B) (Lb B) S1 P lo.toArray E W i K a w σ := by
  unfold xOp2
  simp only [at_drop hi]
  rw [if_pos hw, if_pos hE]
  unfold effAt
  rw [hrun]
  exact ⟨hl, h⟩
theorem xOp_store {i : Nat} {lo : List Oper} {o : Oper} {tl : List Oper} (hi : lo.drop i = o :: tl) (hE : E.contains i = true) (hw : Region.wanted o (yielded lo.toArray a.tmps) = true) (w' : World) (hrun : (execOp a.eval o).run P w = .ok .skip w') (hl : relE (La B) (Lb B) lo.toArray S1 o w w') (h : K (a.put o.dst undef) w' ((i, w') :: σ)) : xOp2 (La B) (Lb B) S1 P lo.toArray E W i K a w σ := by
  unfold xOp2
  simp only [at_drop hi]
  rw [if_pos hw, if_pos hE]
  unfold effAt
  rw [hrun]
  exact ⟨hl, h⟩
theorem xOp_call {i : Nat} {lo : List Oper} {o : Oper} {tl : List Oper} (hi : lo.drop i = o :: tl) (hE : E.contains i = true) (hw : Region.wanted o (yielded lo.toArray a.tmps) = true) {f : FuncId} {xs : Array Operand} {ts : Array TypeId}
    (ho : o.op = .call { callee := .value (.func f), args := xs, argTypes := ts }) (hen : ∀ args w, (callFunc f args).run P w = .ok (.enter f args) w)
    (args : Array Value) (hargs : xs.toList.map a.eval = args.toList) (h : Calls P f args w fun e w' => ∃ v, e = .returned v ∧ Below w.heap.size w w' ∧ K (a.put o.dst v) w' ((i, w') :: σ)) : xOp2 (La B) (Lb B) S1 P lo.toArray E W i K a w σ := by
  unfold xOp2
  simp only [at_drop hi]
  rw [if_pos hw, if_pos hE]
  unfold effAt
  have hargs : xs.map a.eval = args := Array.toList_inj.1 (by rw [Array.toList_map]; exact hargs)
  subst hargs
  have : (execOp a.eval o).run P w = .ok (.enter f (xs.map a.eval)) w := by
    unfold execOp
    simp [ho, resolve, invoke, Act.eval, Deferred.ofValue, hen]
  rw [this]
  exact Calls.mono h fun e w' ⟨v, he, hb, hk⟩ => ⟨v, he, relE_lq hb, hk⟩
/-- append: onto a row that the region itself has made, or (hS) as one of the last operations. -/
theorem xOp_append {α : Type} {Ea : Lie α} {T : TypeId} {bytes : Nat} (Kb : KnownB P Ea T bytes) {i : Nat} {lo : List Oper} {o : Oper} {tl : List Oper} (hi : lo.drop i = o :: tl) (hE : E.contains i = true) (hgd : o.guard = none) (s x : Operand)
    (ho : o.op = .call { callee := .builtin .append, args := #[s, x], argTypes := #[T, T] })
    (base : Nat) (v : Value) (ks : List α) (hs : a.eval s = v) (hown : OwnE Ea w base v ks) (vx : Value) (l : List α) (hx : a.eval x = vx) (hsl : SlE Ea w vx l)
    (hlen : ks.length + l.length ≤ maxLen) (hb : (ks.length + l.length) * bytes ≤ 140737488355328) (hbase : base ≤ w.heap.size) (hl : ∀ w', Below base w w' → relE (La B) (Lb B) lo.toArray S1 o w w')
    (h : ∀ v' w', OwnE Ea w' base v' (ks ++ l) → Gr w v w' v' → K (a.put o.dst v') w' ((i, w') :: σ)) : xOp2 (La B) (Lb B) S1 P lo.toArray E W i K a w σ := by
  obtain ⟨v', w', hr, h2, h3⟩ := run_append_B Kb w o.type base v ks hown vx l hsl hlen hb hbase
  refine xOp_eff hi hE (by simp [Region.wanted, hgd]) v' w' ?_ (hl w' (h3.own hown hbase)) (h v' w' h2 h3)
  unfold execOp
  simp only [ho, resolve, invoke, builtin, Sem.run_bind, Sem.run_pure, Result.andThen_ok, List.map_toArray, List.map_cons, List.map_nil, hs, hx, hr]
attribute [irreducible] GX
end
end Go.Proofs.Ytkbifcfgcokmlaa
namespace Go.Proofs.Ytkbifcfgcokmlaa
set_option maxRecDepth 100000
theorem u64_of {n : Int} (h : (Lit.int .u64 n).wf = true) : ∃ q : UInt64, n = (q.toNat : Int) := by
  have hb : (decide (IntKind.u64.min ≤ n) && decide (n ≤ IntKind.u64.max)) = true := h
  rw [Bool.and_eq_true, decide_eq_true_eq, decide_eq_true_eq, show IntKind.u64.min = 0 from rfl, show IntKind.u64.max = 18446744073709551615 from rfl] at hb
  refine ⟨UInt64.ofNat n.toNat, ?_⟩
  rw [UInt64.toNat_ofNat', Nat.mod_eq_of_lt (by simp; omega)]
  omega
end Go.Proofs.Ytkbifcfgcokmlaa
