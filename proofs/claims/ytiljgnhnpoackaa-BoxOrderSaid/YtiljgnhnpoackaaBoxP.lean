/-
  Boxes, plainly, of whatever notes: what may be, what is posted, taken, closed; no word of the program.
-/
import Derived.Test.YtiljgnhnpoackaaEl
namespace Go.Proofs.Ytiljgnhnpoackaa

structure BoxP (ν : Type) where
  cap : Int
  l : List ν
  lag : Bool
  closed : Bool
theorem BoxP.ext {ν : Type} {x y : BoxP ν} (h1 : x.cap = y.cap) (h2 : x.l = y.l) (h3 : x.lag = y.lag) (h4 : x.closed = y.closed) : x = y := by cases x; cases y; simp_all

section
variable {ν : Type} (ver : ν → Int)

/-- Do the versions rise? -/
def risB : List ν → Bool
  | a :: b :: l => decide (ver a < ver b) && risB (b :: l)
  | _ => true
theorem risB_iff : ∀ l : List ν, risB ver l = true ↔ ∀ (i : Nat) (h : i + 1 < l.length), ver (l[i]'(by omega)) < ver l[i + 1]
  | [] => by simp [risB]
  | [a] => by simp [risB]
  | a :: b :: l => by
    rw [risB, Bool.and_eq_true, decide_eq_true_iff, risB_iff (b :: l)]
    constructor
    · rintro ⟨h1, h2⟩ i hi
      cases i with
      | zero => exact h1
      | succ i => exact h2 i (by simpa using hi)
    · intro h
      refine ⟨h 0 (by simp), fun i hi => ?_⟩
      have := h (i + 1) (by simpa using hi)
      exact this
theorem risB_take {l : List ν} (h : risB ver l = true) (n : Nat) : risB ver (l.take n) = true := by
  rw [risB_iff] at *
  intro i hi
  rw [List.length_take] at hi
  have := h i (by omega)
  simpa using this
theorem risB_drop {l : List ν} (h : risB ver l = true) (n : Nat) : risB ver (l.drop n) = true := by
  rw [risB_iff] at *
  intro i hi
  rw [List.length_drop] at hi
  have := h (n + i) (by omega)
  simpa [Nat.add_assoc] using this
theorem risB_snoc {l : List ν} {n : ν} (h : risB ver l = true) (hl : ∀ h : 0 < l.length, ver (l[l.length - 1]'(by omega)) < ver n) : risB ver (l ++ [n]) = true := by
  rw [risB_iff] at *
  intro i hi
  simp at hi
  by_cases e : i + 1 = l.length
  · have h1 := hl (by omega)
    have e2 : (l ++ [n])[i + 1]'(by simp; omega) = n := by simp [e]
    have e3 : (l ++ [n])[i]'(by simp; omega) = l[l.length - 1]'(by omega) := by
      rw [List.getElem_append_left (by omega)]
      congr 1; omega
    rw [e2, e3]; exact h1
  · rw [List.getElem_append_left (by omega), List.getElem_append_left (by omega)]
    exact h i (by omega)

/-- Is there a note, of a version not below this one, behind all others? -/
def lastB (l : List ν) (v : Int) : Bool := if h : 0 < l.length then decide (v ≤ ver (l[l.length - 1]'(by omega))) else false
def mayX (b : BoxP ν) : Bool := decide (0 ≤ b.cap ∧ b.cap ≤ 8 ∧ (b.l.length : Int) ≤ b.cap) && risB ver b.l
/-- Can this note come in, if there is room? -/
def fitB (b : BoxP ν) (n : ν) : Bool := mayX ver b && !b.closed && !lastB ver b.l (ver n)
def postX (b : BoxP ν) (n : ν) : BoxP ν := if fitB ver b n = true then (if (b.l.length : Int) = b.cap then { b with lag := true } else { b with l := b.l ++ [n] }) else b
def takeB (b : BoxP ν) : Bool := mayX ver b && decide (0 < b.l.length)
def takeX (b : BoxP ν) : BoxP ν := if takeB ver b = true then { b with l := b.l.drop 1 } else b
def takeN (z : ν) (b : BoxP ν) : ν := if takeB ver b = true then b.l.getD 0 z else z
def closeB (b : BoxP ν) : Bool := mayX ver b && !b.closed
def closeX (b : BoxP ν) : BoxP ν := if closeB ver b = true then { b with closed := true } else b

variable {ver}
theorem mayX_iff {b : BoxP ν} : mayX ver b = true ↔ 0 ≤ b.cap ∧ b.cap ≤ 8 ∧ (b.l.length : Int) ≤ b.cap ∧ risB ver b.l = true := by
  unfold mayX; rw [Bool.and_eq_true, decide_eq_true_iff]
  exact ⟨fun ⟨⟨a, b, c⟩, d⟩ => ⟨a, b, c, d⟩, fun ⟨a, b, c, d⟩ => ⟨⟨a, b, c⟩, d⟩⟩
theorem mayX_len {b : BoxP ν} (h : mayX ver b = true) : b.l.length ≤ 8 := by rw [mayX_iff] at h; omega
theorem fit_last {b : BoxP ν} {n : ν} (h : fitB ver b n = true) : mayX ver b = true ∧ b.closed = false ∧ ∀ h : 0 < b.l.length, ver (b.l[b.l.length - 1]'(by omega)) < ver n := by
  unfold fitB at h
  rw [Bool.and_eq_true, Bool.and_eq_true] at h
  refine ⟨h.1.1, by simpa using h.1.2, fun hl => ?_⟩
  have := h.2
  unfold lastB at this
  rw [dif_pos hl] at this
  simpa using this
theorem post_may {b : BoxP ν} (h : mayX ver b = true) (n : ν) : mayX ver (postX ver b n) = true := by
  unfold postX
  split
  · rename_i hf
    obtain ⟨_, _, hl⟩ := fit_last hf
    split
    · exact h
    · rename_i hne
      rw [mayX_iff] at *
      exact ⟨h.1, h.2.1, by simp; omega, risB_snoc ver h.2.2.2 hl⟩
  · exact h
theorem take_may {b : BoxP ν} (h : mayX ver b = true) : mayX ver (takeX ver b) = true := by
  unfold takeX
  split
  · rw [mayX_iff] at *
    exact ⟨h.1, h.2.1, by simp; omega, risB_drop ver h.2.2.2 1⟩
  · exact h
theorem close_may {b : BoxP ν} (h : mayX ver b = true) : mayX ver (closeX ver b) = true := by
  unfold closeX
  split
  · exact h
  · exact h
theorem last_snoc (l : List ν) (n : ν) (v : Int) : lastB ver (l ++ [n]) v = decide (v ≤ ver n) := by
  unfold lastB
  rw [dif_pos (by simp)]
  simp
/-- A note that is posted twice. -/
theorem post_twice (b : BoxP ν) (n m : ν) (h : ver m ≤ ver n) (hl : (postX ver b n).l.length ≠ b.l.length) : postX ver (postX ver b n) m = postX ver b n ∧ (postX ver b n).lag = b.lag := by
  have hf : fitB ver b n = true := by
    cases hh : fitB ver b n with
    | true => rfl
    | false => exact absurd (by unfold postX; rw [if_neg (by rw [hh]; exact Bool.false_ne_true)]) hl
  have hne : ¬ (b.l.length : Int) = b.cap := fun e => hl (by unfold postX; rw [if_pos hf, if_pos e])
  have e : postX ver b n = { b with l := b.l ++ [n] } := by unfold postX; rw [if_pos hf, if_neg hne]
  rw [e]
  refine ⟨?_, rfl⟩
  have : fitB ver ({ b with l := b.l ++ [n] } : BoxP ν) m = false := by
    unfold fitB
    rw [last_snoc, decide_eq_true h]
    simp
  unfold postX
  rw [if_neg (by rw [this]; exact Bool.false_ne_true)]
theorem post_same (b : BoxP ν) (n : ν) (hl : (postX ver b n).l.length = b.l.length) : postX ver (postX ver b n) n = postX ver b n := by
  cases hf : fitB ver b n with
  | false =>
    have e : postX ver b n = b := by unfold postX; rw [if_neg (by rw [hf]; exact Bool.false_ne_true)]
    rw [e, e]
  | true =>
    by_cases hc : (b.l.length : Int) = b.cap
    · have e : postX ver b n = { b with lag := true } := by unfold postX; rw [if_pos hf, if_pos hc]
      rw [e]
      unfold postX
      split
      · first | rfl | (rw [if_pos hc])
      · rfl
    · have e : postX ver b n = { b with l := b.l ++ [n] } := by unfold postX; rw [if_pos hf, if_neg hc]
      rw [e] at hl
      simp at hl
theorem post_closed (b : BoxP ν) (n : ν) (h : b.closed = true) : postX ver b n = b := by
  unfold postX fitB
  rw [h]
  simp
theorem close_twice (b : BoxP ν) : closeB ver (closeX ver b) = false := by
  unfold closeX
  split
  · simp [closeB]
  · rename_i h; simpa using h
theorem close_again (b : BoxP ν) : closeX ver (closeX ver b) = closeX ver b := by
  rw [show closeX ver (closeX ver b) = if closeB ver (closeX ver b) = true then { closeX ver b with closed := true } else closeX ver b from rfl, close_twice]
  simp
theorem post_parts (b : BoxP ν) (n : ν) : (postX ver b n).cap = b.cap ∧ (postX ver b n).closed = b.closed := by
  unfold postX
  split
  · split <;> exact ⟨rfl, rfl⟩
  · exact ⟨rfl, rfl⟩
end
end Go.Proofs.Ytiljgnhnpoackaa
