/-
  The latest votes, plainly: who may, what becomes of a vote, which stay; what the laws of layer 12 want of them.
-/
import Derived.Test.YtfmbgpjpkahmnaaLt
import Derived.Test.YtfmbgpjpkahmnaaGM
namespace Go.Proofs.Ytfmbgpjpkahmnaa

/-- Votes as data. -/
structure Vt where
  l : List Lt
  out : UInt64
theorem Vt.ext {x y : Vt} (h0 : x.l = y.l) (h1 : x.out = y.out) : x = y := by cases x; cases y; simp_all
instance : DecidableEq Vt := fun x y => decidable_of_iff (x.l = y.l ∧ x.out = y.out) ⟨fun h => Vt.ext h.1 h.2, fun h => by subst h; exact ⟨rfl, rfl⟩⟩
def lat (l : List Lt) (i : Nat) : Lt := l.getD i zlt
theorem lat_in {l : List Lt} {i : Nat} (h : i < l.length) : lat l i = l[i] := by unfold lat; simp [h]
theorem lat_ext {l k : List Lt} (hl : l.length = k.length) (h : ∀ i, i < k.length → lat l i = lat k i) : l = k := by
  refine List.ext_getElem hl fun i h1 h2 => ?_
  have := h i h2
  rwa [lat_in h1, lat_in h2] at this
theorem lat_set {l : List Lt} {i j : Nat} {x : Lt} (h : i < l.length) : lat (l.set i x) j = if j = i then x else lat l j := by
  unfold lat
  rw [List.getD_eq_getElem?_getD, List.getElem?_set]
  by_cases e : i = j
  · subst e; rw [if_pos rfl, if_pos h, if_pos rfl]; rfl
  · rw [if_neg e, if_neg (fun e2 => e e2.symm), List.getD_eq_getElem?_getD]
/-- What is asked of place i, of 64. -/
def okAt (v : Vt) (i : Nat) : Bool := if hasB v.out i = true ∧ ¬ i < v.l.length then false else if i < v.l.length ∧ (hasB v.out i = true ∨ (lat v.l i).has = false) then decide (lat v.l i = zlt) else true
def MayV (v : Vt) : Prop := 1 ≤ v.l.length ∧ v.l.length ≤ 8 ∧ ∀ i, i < 64 → okAt v i = true
instance (v : Vt) : Decidable (MayV v) := by unfold MayV; exact inferInstance
def mayV (v : Vt) : Bool := decide (MayV v)
theorem mayV_iff {v : Vt} : mayV v = true ↔ 1 ≤ v.l.length ∧ v.l.length ≤ 8 ∧ ∀ i, i < 64 → okAt v i = true := by unfold mayV; rw [decide_eq_true_iff]; rfl
theorem okAt_iff {v : Vt} {i : Nat} : okAt v i = true ↔ (hasB v.out i = true → i < v.l.length) ∧ (i < v.l.length → hasB v.out i = true ∨ (lat v.l i).has = false → lat v.l i = zlt) := by
  unfold okAt
  by_cases h1 : hasB v.out i = true ∧ ¬ i < v.l.length
  · rw [if_pos h1]
    exact ⟨fun e => by (cases e), fun e => absurd (e.1 h1.1) h1.2⟩
  · rw [if_neg h1]
    by_cases h2 : i < v.l.length ∧ (hasB v.out i = true ∨ (lat v.l i).has = false)
    · rw [if_pos h2, decide_eq_true_iff]
      exact ⟨fun e => ⟨fun _ => h2.1, fun _ _ => e⟩, fun e => e.2 h2.1 h2.2⟩
    · rw [if_neg h2]
      refine ⟨fun _ => ⟨fun e => Classical.byContradiction fun n => h1 ⟨e, n⟩, fun h3 h4 => absurd ⟨h3, h4⟩ h2⟩, fun _ => rfl⟩
def newOkV (n : Int) : Bool := decide (1 ≤ n ∧ n ≤ 8)
def newV (n : Int) : Vt := if newOkV n = true then ⟨List.replicate n.toNat zlt, 0⟩ else ⟨[], 0⟩
def inV (v : Vt) (i : Int) : Bool := decide (0 ≤ i ∧ i < v.l.length)
/-- What becomes of a vote: 0 ignored, 1 taken, 2 the second one of its epoch. -/
def fateV (v : Vt) (i : Nat) (r : Rt) (ep : UInt64) : Nat :=
  if hasB v.out i = true then 0
  else if (lat v.l i).has = true ∧ (ep.toNat < (lat v.l i).epoch.toNat ∨ (lat v.l i).epoch = ep ∧ (lat v.l i).root = r) then 0
  else if (lat v.l i).has = true ∧ (lat v.l i).epoch = ep then 2 else 1
def bitU (i : Nat) : UInt64 := UInt64.ofNat (2 ^ i)
def stepV (v : Vt) (i : Nat) (r : Rt) (ep : UInt64) : Vt := match fateV v i r ep with
  | 0 => v
  | 1 => ⟨v.l.set i ⟨true, r, ep⟩, v.out⟩
  | _ => ⟨v.l.set i zlt, v.out + bitU i⟩
def putVe (v : Vt) (i : Int) : Nat := if mayV v = true then (if inV v i = true then 0 else 10) else 1
def putVk (v : Vt) (i : Int) (r : Rt) (ep : UInt64) : Nat := if mayV v = true ∧ inV v i = true then fateV v i.toNat r ep else 0
def putV (v : Vt) (i : Int) (r : Rt) (ep : UInt64) : Vt := if mayV v = true ∧ inV v i = true then stepV v i.toNat r ep else v
def stayB (keep : List Rt) (x : Lt) : Bool := decide (x.root ∈ keep)
def dropV (v : Vt) (keep : List Rt) : Vt := if mayV v = true then ⟨v.l.map fun x => if stayB keep x = true then x else zlt, v.out⟩ else v
end Go.Proofs.Ytfmbgpjpkahmnaa
