/-
  s[:n] of elements of any number of cells; for every program.
-/
import Derived.Test.YtljehgohcchocaaEl
namespace Go.Proofs.Ytljehgohcchocaa
open Go.RowKit
set_option maxRecDepth 100000
section
variable {α : Type} {E : Lie α} {P : Program}
def cutTE (n : Nat) (v hi : Value) : Option Value :=
  match v, hi with
  | .slice a _ cap, .int _ h => if 0 ≤ h ∧ h ≤ cap then some (sliced a 0 h.toNat cap n) else none
  | _, _ => none
theorem slice_to_E {T e : TypeId} {n : Nat} (hT : P.underlying T = some (.slice e)) (hs : ∀ w, (Go.sizeOf e).run P w = .ok n w) (ρ : Operand → Value) (dst : Option Tmp) (x hi : Operand) (ty : TypeId) (pos : String) (after : Array Edge) (guard : Option (Nat × Bool)) (w : World) :
    (execOp ρ { dst, op := .slice T x none (some hi) none, type := ty, pos, after, guard }).run P w = vOutE (cutTE n (ρ x) (ρ hi)) w (opRest P ρ { dst, op := .slice T x none (some hi) none, type := ty, pos, after, guard } w) := by
  have hu : P.underlying T = some (.slice (P.elem T)) := by simp [Program.elem, hT]
  have he : P.elem T = e := by simp [Program.elem, hT]
  cases h : cutTE n (ρ x) (ρ hi) with
  | none => rfl
  | some v =>
    unfold cutTE at h
    split at h
    · rename_i a len cap k l hx hl
      split at h
      · rename_i hb
        have hv := Option.some.inj h
        subst hv
        unfold execOp
        simp only [hx, hl, Option.map_some, Option.map_none, Sem.run_bind]
        rw [run_sliceAt_slice w _ _ _ _ _ hu, run_slice_h w _ a len cap hu k l hb.1 hb.2, he, hs]
        rfl
      · cases h
    · cases h
theorem cut_toE (p : Option Addr) (cap : Nat) (l : List α) (n : Nat) (hn : n ≤ l.length) (hc : l.length ≤ cap) : ∃ vr, cutTE E.n (.slice p l.length cap) (.int .i64 (n : Int)) = some vr ∧ ∀ (w : World), SlE E w (.slice p l.length cap) l → SlE E w vr (l.take n) := by
  refine ⟨sliced p 0 n cap E.n, ?_, fun w h => ?_⟩
  · show (if 0 ≤ (n : Int) ∧ (n : Int) ≤ (cap : Int) then some (sliced p 0 (n : Int).toNat cap E.n) else none) = _
    rw [if_pos (by omega), Int.toNat_natCast]
  · unfold sliced
    have hl : (l.take n).length = n := by rw [List.length_take]; omega
    refine ⟨_, cap, by rw [hl]; rfl, by rw [hl]; omega, ?_⟩
    by_cases e : n = 0
    · left; rw [e, List.take_zero]
    · right
      obtain ⟨b, off, cap', e1, _, hb, hx⟩ := slE_ne h (by omega)
      injection e1 with e2 _ e3
      subst e2 e3
      rw [if_neg (by omega)]
      refine ⟨b, off, by simp [Addr.add], hb, fun j v hv => ?_⟩
      have hsplit : cellsE E l = cellsE E (l.take n) ++ cellsE E (l.drop n) := by rw [← cellsE_append, List.take_append_drop]
      refine hx _ v ?_
      rw [hsplit, List.getElem?_append_left (List.getElem?_eq_some_iff.1 hv).1]
      exact hv
end
end Go.Proofs.Ytljehgohcchocaa
