/-
  Attestations that wait, plainly: who may, who is due, the next slot; what the laws of layer 13 want of them.
-/
import Derived.Test.YtljehgohcchocaaAa
namespace Go.Proofs.Ytljehgohcchocaa
set_option maxRecDepth 100000

def att (l : List Aa) (i : Nat) : Aa := l.getD i zaa
def slA (l : List Aa) (i : Nat) : Nat := (att l i).slot.toNat
def MayA (l : List Aa) : Prop := l.length ≤ 6 ∧ ∀ i, i < l.length → slA l i ≤ 1099511627776
instance (l : List Aa) : Decidable (MayA l) := by unfold MayA; exact inferInstance
def mayA (l : List Aa) : Bool := decide (MayA l)
def putOkA (l : List Aa) (a : Aa) : Bool := mayA l && decide (a.slot.toNat ≤ 1099511627776)
/-- What Put tells: 1, 3, 0. -/
def putE (l : List Aa) (a : Aa) : Nat := if putOkA l a = true then (if l.length = 6 then 3 else 0) else 1
def putA (l : List Aa) (a : Aa) : List Aa := if putOkA l a = true then (if l.length = 6 then l else l ++ [a]) else l
def isDue (now : Nat) (a : Aa) : Bool := decide (a.slot.toNat < now)
def dueL (l : List Aa) (now : Nat) : List Aa := l.filter (isDue now)
def restL (l : List Aa) (now : Nat) : List Aa := l.filter fun a => !isDue now a
def nextUp (l : List Aa) : Nat → Nat
  | 0 => slA l 0
  | q + 1 => if slA l (q + 1) < nextUp l q then slA l (q + 1) else nextUp l q
def nextN (l : List Aa) : Nat := if l = [] then 0 else nextUp l (l.length - 1)
def someA (l : List Aa) : Bool := !decide (l = [])
section
variable {l k : List Aa} {a : Aa} {now later : Nat}
theorem att_in {i : Nat} (h : i < l.length) : att l i = l[i] := by unfold att; simp [h]
theorem mayA_iff : mayA l = true ↔ l.length ≤ 6 ∧ ∀ i, i < l.length → slA l i ≤ 1099511627776 := by unfold mayA; rw [decide_eq_true_iff]; rfl
theorem mayA_all : mayA l = true ↔ l.length ≤ 6 ∧ ∀ a, a ∈ l → a.slot.toNat ≤ 1099511627776 := by
  rw [mayA_iff]
  refine and_congr Iff.rfl ⟨fun h a ha => ?_, fun h i hi => ?_⟩
  · obtain ⟨i, hi, rfl⟩ := List.getElem_of_mem ha
    have := h i hi
    unfold slA at this
    rwa [att_in hi] at this
  · unfold slA
    rw [att_in hi]
    exact h _ (List.getElem_mem hi)
theorem due_app : dueL (l ++ k) now = dueL l now ++ dueL k now := List.filter_append ..
theorem rest_app : restL (l ++ k) now = restL l now ++ restL k now := List.filter_append ..
theorem due_len : (dueL l now).length + (restL l now).length = l.length := by
  unfold dueL restL
  induction l with
  | nil => rfl
  | cons a l ih =>
    simp only [List.filter_cons]
    cases isDue now a <;> simp <;> omega
theorem due_le : (dueL l now).length ≤ l.length := by have := due_len (l := l) (now := now); omega
theorem rest_le : (restL l now).length ≤ l.length := by have := due_len (l := l) (now := now); omega
theorem isDue_mono (h : now ≤ later) (e : isDue now a = true) : isDue later a = true := by
  unfold isDue at *
  rw [decide_eq_true_iff] at *
  omega
/-- P13.3: what waits still is due later, once. -/
theorem due_later (h : now ≤ later) : restL (restL l now) later = restL l later ∧ (dueL l now).length + (dueL (restL l now) later).length = (dueL l later).length := by
  constructor
  · unfold restL
    rw [List.filter_filter]
    refine List.filter_congr fun a _ => ?_
    cases e : isDue now a
    · simp
    · rw [isDue_mono h e]; rfl
  · unfold dueL restL
    induction l with
    | nil => rfl
    | cons a l ih =>
      simp only [List.filter_cons]
      cases e : isDue now a
      · simp only [Bool.not_false, if_true, List.filter_cons, Bool.false_eq_true, if_false]
        cases e2 : isDue later a <;> simp only [Bool.false_eq_true, if_false, if_true, List.length_cons] <;> omega
      · rw [isDue_mono h e]
        simp only [Bool.not_true, if_true, Bool.false_eq_true, if_false, List.length_cons]
        omega
theorem due_mem {x : Aa} (h : x ∈ dueL l now) : x ∈ l ∧ x.slot.toNat < now := by
  unfold dueL at h
  rw [List.mem_filter] at h
  unfold isDue at h
  rw [decide_eq_true_iff] at h
  exact h
theorem rest_mem {x : Aa} (h : x ∈ restL l now) : x ∈ l ∧ ¬ x.slot.toNat < now := by
  unfold restL at h
  rw [List.mem_filter] at h
  unfold isDue at h
  simpa using h
theorem due_zero : dueL l 0 = [] ∧ restL l 0 = l := by
  constructor
  · unfold dueL
    rw [List.filter_eq_nil_iff]
    intro a _
    unfold isDue
    simp
  · unfold restL
    rw [List.filter_eq_self]
    intro a _
    unfold isDue
    simp
/-- The next slot is the least one. -/
theorem nextUp_le (l : List Aa) : ∀ q i, i ≤ q → nextUp l q ≤ slA l i
  | 0, i, h => by obtain rfl : i = 0 := by omega
                  exact Nat.le_refl _
  | q + 1, i, h => by
    show (if slA l (q + 1) < nextUp l q then slA l (q + 1) else nextUp l q) ≤ _
    by_cases e : i = q + 1
    · subst e; split <;> omega
    · have := nextUp_le l q i (by omega)
      split <;> omega
theorem nextUp_is (l : List Aa) : ∀ q, ∃ i, i ≤ q ∧ nextUp l q = slA l i
  | 0 => ⟨0, Nat.le_refl _, rfl⟩
  | q + 1 => by
    obtain ⟨i, hi, e⟩ := nextUp_is l q
    by_cases h : slA l (q + 1) < nextUp l q
    · exact ⟨q + 1, Nat.le_refl _, if_pos h⟩
    · exact ⟨i, by omega, (if_neg h).trans e⟩
theorem slA_lt (l : List Aa) (i : Nat) : slA l i < 18446744073709551616 := (att l i).slot.toNat_lt
theorem nextN_lt (l : List Aa) : nextN l < 18446744073709551616 := by
  unfold nextN
  split
  · decide
  · obtain ⟨i, _, e⟩ := nextUp_is l (l.length - 1)
    rw [e]; exact slA_lt _ _
theorem next_due : (0 < (dueL l now).length) ↔ l ≠ [] ∧ nextN l < now := by
  rw [List.length_pos_iff_exists_mem]
  constructor
  · rintro ⟨x, hx⟩
    obtain ⟨h1, h2⟩ := due_mem hx
    have hne : l ≠ [] := List.ne_nil_of_mem h1
    obtain ⟨i, hi, rfl⟩ := List.getElem_of_mem h1
    refine ⟨hne, ?_⟩
    unfold nextN
    rw [if_neg hne]
    have := nextUp_le l (l.length - 1) i (by omega)
    unfold slA at this
    rw [att_in hi] at this
    omega
  · rintro ⟨hne, h⟩
    unfold nextN at h
    rw [if_neg hne] at h
    obtain ⟨i, hi, e⟩ := nextUp_is l (l.length - 1)
    have hl : 0 < l.length := List.length_pos_iff.2 hne
    have hil : i < l.length := by omega
    rw [e] at h
    unfold slA at h
    rw [att_in hil] at h
    refine ⟨l[i], ?_⟩
    unfold dueL
    rw [List.mem_filter]
    exact ⟨List.getElem_mem hil, by unfold isDue; exact decide_eq_true h⟩
theorem put_room (h : mayA l = true) (ha : a.slot.toNat ≤ 1099511627776) (hl : l.length < 6) : putA l a = l ++ [a] ∧ putE l a = 0 ∧ mayA (l ++ [a]) = true := by
  have e : putOkA l a = true := by unfold putOkA; rw [h, decide_eq_true ha]; rfl
  refine ⟨by unfold putA; rw [if_pos e, if_neg (by omega)], by unfold putE; rw [if_pos e, if_neg (by omega)], mayA_all.2 ⟨by simp; omega, fun x hx => ?_⟩⟩
  rcases List.mem_append.1 hx with hx | hx
  · exact (mayA_all.1 h).2 x hx
  · rw [List.mem_singleton.1 hx]; exact ha
theorem put_full (h : mayA l = true) (ha : a.slot.toNat ≤ 1099511627776) (hl : ¬ l.length < 6) : putA l a = l ∧ putE l a = 3 := by
  have e : putOkA l a = true := by unfold putOkA; rw [h, decide_eq_true ha]; rfl
  have := (mayA_iff.1 h).1
  exact ⟨by unfold putA; rw [if_pos e, if_pos (by omega)], by unfold putE; rw [if_pos e, if_pos (by omega)]⟩
theorem rest_last (h : ¬ a.slot.toNat < now) : restL (l ++ [a]) now = restL l now ++ [a] := by
  rw [rest_app]
  congr 1
  unfold restL isDue
  simp [h]
theorem due_last (h : a.slot.toNat < now) : dueL (l ++ [a]) now = dueL l now ++ [a] := by
  rw [due_app]
  congr 1
  unfold dueL isDue
  simp [h]
theorem mayA_sub (h : mayA l = true) (hs : k.length ≤ l.length) (hm : ∀ x, x ∈ k → x ∈ l) : mayA k = true := mayA_all.2 ⟨by have := (mayA_all.1 h).1; omega, fun x hx => (mayA_all.1 h).2 x (hm x hx)⟩
end
end Go.Proofs.Ytljehgohcchocaa
