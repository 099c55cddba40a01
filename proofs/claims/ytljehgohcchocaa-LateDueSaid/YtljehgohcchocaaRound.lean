/-
  A region that draws its order WITHIN A ROUND of a range over a function: one walk in the text's order serves every order there, too; for every program.
-/
import Derived.Test.YtljehgohcchocaaLex
import Derived.OrdersIn
import Derived.RangeFuncCalls
namespace Go.Proofs.Ytljehgohcchocaa
open Go.RowKit
set_option maxRecDepth 100000
section
variable {P : Program} {ops : Array Oper} {Q : Exit → Act → World → Prop} {md : Region.Mode} {lo n : Nat}
def noDefer (ops : Array Oper) : Bool := ops.all fun o => match o.op with | .defer _ => false | _ => true
theorem noDefer_spec (h : noDefer ops = true) {i : Nat} {o : Oper} (hi : ops[i]? = some o) : ∀ c, o.op ≠ .defer c := by
  intro c e
  obtain ⟨hl, rfl⟩ := Array.getElem?_eq_some_iff.1 hi
  have := Array.all_eq_true.1 h i hl
  rw [e] at this
  cases this
theorem uponIn_plain {o : Oper} {a : Act} {K : Act → World → Prop} {r : Result Next} (h : o.upon P a K Q r) : o.uponIn (Fence.wide.inRound lo) n P a K Q r := by
  cases r with
  | ok x w' =>
    cases x with
    | value v => exact h
    | skip => exact h
    | defer d => exact h
    | enter f args => exact ⟨fun h => (by cases h), CallsIn.inRound lo (callsIn_wide.2 h)⟩
    | row row args => exact ⟨fun h => (by cases h), fun c cs _ => let ⟨v, w'', r, s⟩ := h c cs; ⟨v, w'', r, stepsIn_wide.2 s⟩⟩
    | round l f tmps assign body => exact h.elim
    | _ => exact h.elim
  | halt x w' =>
    cases x with
    | panic v => exact h
    | _ => exact h.elim
theorem wpOpIn_plain (hQ : ¬ LetsOut Q) (hd : noDefer ops = true) {i : Nat} {K K' : Act → World → Prop} {a : Act} {w : World} (hk : ∀ a w, K a w → K' a w) (h : wpOp P ops Q i K a w) : wpOpIn (Fence.wide.inRound lo) n P ops Q i K' a w := by
  refine wpOpIn_mono hk ?_
  unfold wpOp at h
  unfold wpOpIn
  split
  · rename_i e
    simp only [e] at h
    exact h
  · rename_i o e
    simp only [e] at h
    split
    · rename_i hw
      rw [if_pos hw] at h
      have h := h.resolve_right fun x => hQ x.2
      unfold Oper.wpIn
      refine ⟨fun _ _ => trivial, ?_⟩
      rw [Oper.semAt_eq _ _ _ (noDefer_spec hd e)]
      exact uponIn_plain h
    · rename_i hw
      rw [if_neg hw] at h
      exact ⟨fun _ _ => trivial, h⟩
theorem wpAnyIn_plain (hQ : ¬ LetsOut Q) (hd : noDefer ops = true) : ∀ (fuel : Nat) (listed : Array Bool) (a : Act) (w : World), wpAny P md ops Q fuel listed a w → wpAnyIn (Fence.wide.inRound lo) n P md ops Q fuel listed a w
  | 0, _, _, _, h => h
  | fuel + 1, _, _, _, h => ⟨h.1, fun i hi => wpOpIn_plain hQ hd (fun _ _ hk => wpAnyIn_plain hQ hd fuel _ _ _ hk) (h.2 i hi)⟩
/-- What stands behind a region that runs through. -/
def Thru (Q : Exit → Act → World → Prop) (e : Exit) (a : Act) (w : World) : Prop := e = .normal ∧ Q .normal a w
theorem thru_out : ¬ LetsOut (Thru Q) := fun ⟨_, _, h, _⟩ => by cases h
/-- 'region_lex' in a round. -/
theorem region_lexR {L : World → World → Prop} (lr : ∀ w, L w w) (lt : ∀ {a b c : World}, L a b → L b c → L a c) (E : List Nat) {id : Nat} {a : Act} {w : World} {l : List Oper} (hd : noDefer l.toArray = true) (hm : P.follows .mixedOrders = true) (hB : Region.lexB .any l.toArray = true) (hc : chainB l.toArray E = true)
    (h : wpXL L P l.toArray E w.drew (Thru Q) 0 l a w.drew []) : (Code.region id l.toArray true).wpIn (Fence.wide.inRound lo) n P Q a w := by
  simp only [Region.lexB, Bool.and_eq_true] at hB
  refine wpIn_mono (Q := Thru Q) (wpIn_region_any hm (wpAnyIn_plain thru_out hd _ _ _ _ (wpAny_of_X (L := L) lr lt (E := E) (W := w.drew) _ _ _ _ [] ⟨lr _, by simp⟩ ?_))) (fun e a w hh => by obtain ⟨rfl, hh⟩ := hh; exact hh)
  have hd : DC l.toArray (Array.replicate l.toArray.size false) := fun k o _ hl => by
    rw [Array.getD_eq_getD_getElem?, Array.getElem?_replicate] at hl
    split at hl <;> simp at hl
  have := wpX_lex (P := P) (L := L) lr lt (E := E) (W := w.drew) (Q := Thru Q) hB.1 hc l 0 (Array.replicate l.toArray.size false) a w.drew [] ⟨lr _, by simp⟩ hd (by simp) (by simpa using hB.2) h
  simpa using this
/-- 'wp_region_lex' in a round (at the wide fence): the end is 'wpXL_nil ⟨rfl, ?_⟩'. -/
theorem wpIn_region_lexR (E : List Nat) {id : Nat} {a : Act} {w : World} {l : List Oper} (hd : noDefer l.toArray = true) (hm : P.follows .mixedOrders = true) (hB : Region.lexB .any l.toArray = true) (hc : chainB l.toArray E = true)
    (h : wpXL Lq P l.toArray E w.drew (Thru Q) 0 l a w.drew []) : (Code.region id l.toArray true).wpIn (Fence.wide.inRound lo) n P Q a w := region_lexR Lq.refl (fun h k => Lq.trans h k) E hd hm hB hc h
/-- A call of a Go function in a round, by its plain contract. -/
theorem calls_round {f : FuncId} {args : Array Value} {w : World} {R : Ending → World → Prop} (h : Calls P f args w R) : CallsIn (Fence.wide.inRound lo) n P f args w R := CallsIn.inRound lo (callsIn_wide.2 h)
end
end Go.Proofs.Ytljehgohcchocaa
