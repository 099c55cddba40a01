/-
  Links, plainly: clashes, who is guilty; no word of the program.
  Sums, plainly; no word of the program.
-/
import Derived.Test.YtkbifcfgcokmlaaQ07
import Derived.Below
namespace Go.Proofs.Ytkbifcfgcokmlaa
set_option maxRecDepth 100000

structure Lk where
  s : Ck
  t : Ck
  mask : UInt64
theorem Lk.ext {x y : Lk} (h0 : x.s = y.s) (h1 : x.t = y.t) (h2 : x.mask = y.mask) : x = y := by cases x; cases y; simp_all
instance : DecidableEq Lk := fun x y => decidable_of_iff (x.s = y.s ∧ x.t = y.t ∧ x.mask = y.mask) ⟨fun h => Lk.ext h.1 h.2.1 h.2.2, fun h => by subst h; exact ⟨rfl, rfl, rfl⟩⟩

/-! ### bits -/

/-! ### clashes -/
def oneB (a b : Lk) : Bool := decide (a.s = b.s ∧ a.t = b.t)
def roundB (a b : Lk) : Bool := decide (a.s.epoch.toNat < b.s.epoch.toNat ∧ b.t.epoch.toNat < a.t.epoch.toNat)
def clashB (a b : Lk) : Bool := (!oneB a b && decide (a.t.epoch = b.t.epoch)) || (roundB a b || roundB b a)
theorem clash_comm (a b : Lk) : clashB a b = clashB b a := by
  have h1 : oneB a b = oneB b a := by
    unfold oneB
    rw [Bool.eq_iff_iff, decide_eq_true_iff, decide_eq_true_iff]
    exact ⟨fun h => ⟨h.1.symm, h.2.symm⟩, fun h => ⟨h.1.symm, h.2.symm⟩⟩
  have h2 : decide (a.t.epoch = b.t.epoch) = decide (b.t.epoch = a.t.epoch) := by
    rw [Bool.eq_iff_iff, decide_eq_true_iff, decide_eq_true_iff]
    exact ⟨Eq.symm, Eq.symm⟩
  unfold clashB
  rw [h1, h2, Bool.or_comm (roundB a b)]
theorem clash_self (a : Lk) : clashB a a = false := by
  unfold clashB oneB roundB
  simp
/-- The bits that two of them that clash have both: of the first n, each against those ahead of it. -/
def lkAt (ls : List Lk) (i : Nat) : Lk := ls.getD i ⟨zcc, zcc, 0⟩
def guiltIn (ls : List Lk) (i : Nat) : Nat → UInt64 → UInt64
  | 0, g => g
  | k + 1, g => let g := guiltIn ls i k g; if clashB (lkAt ls i) (lkAt ls k) = true then g ||| ((lkAt ls i).mask &&& (lkAt ls k).mask) else g
def guiltF (ls : List Lk) : Nat → UInt64
  | 0 => 0
  | i + 1 => guiltIn ls i i (guiltF ls i)
def guiltT (ls : List Lk) : UInt64 := guiltF ls ls.length
section
variable {ls : List Lk}
theorem guiltIn_bit (i j : Nat) (g : UInt64) : ∀ k, (guiltIn ls i k g).toNat.testBit j = true ↔ g.toNat.testBit j = true ∨ ∃ m, m < k ∧ clashB (lkAt ls i) (lkAt ls m) = true ∧ (lkAt ls i).mask.toNat.testBit j = true ∧ (lkAt ls m).mask.toNat.testBit j = true
  | 0 => ⟨.inl, fun h => h.elim id fun ⟨m, hm, _⟩ => (by omega)⟩
  | k + 1 => by
    have e : guiltIn ls i (k + 1) g = if clashB (lkAt ls i) (lkAt ls k) = true then guiltIn ls i k g ||| ((lkAt ls i).mask &&& (lkAt ls k).mask) else guiltIn ls i k g := rfl
    rw [e]
    by_cases hc : clashB (lkAt ls i) (lkAt ls k) = true
    · rw [if_pos hc, bit_or, Bool.or_eq_true, guiltIn_bit i j g k, bit_and, Bool.and_eq_true]
      constructor
      · rintro ((h | ⟨m, h1, h2⟩) | h)
        · exact .inl h
        · exact .inr ⟨m, by omega, h2⟩
        · exact .inr ⟨k, by omega, hc, h.1, h.2⟩
      · rintro (h | ⟨m, h1, h2, h3, h4⟩)
        · exact .inl (.inl h)
        · by_cases e : m = k
          · subst e; exact .inr ⟨h3, h4⟩
          · exact .inl (.inr ⟨m, by omega, h2, h3, h4⟩)
    · rw [if_neg hc, guiltIn_bit i j g k]
      constructor
      · rintro (h | ⟨m, h1, h2⟩)
        · exact .inl h
        · exact .inr ⟨m, by omega, h2⟩
      · rintro (h | ⟨m, h1, h2, h3⟩)
        · exact .inl h
        · by_cases e : m = k
          · subst e; exact absurd h2 hc
          · exact .inr ⟨m, by omega, h2, h3⟩
theorem guiltF_bit (j : Nat) : ∀ n, (guiltF ls n).toNat.testBit j = true ↔ ∃ i m, i < n ∧ m < i ∧ clashB (lkAt ls i) (lkAt ls m) = true ∧ (lkAt ls i).mask.toNat.testBit j = true ∧ (lkAt ls m).mask.toNat.testBit j = true
  | 0 => by
    constructor
    · intro h; simp [guiltF] at h
    · rintro ⟨i, m, hi, _⟩; omega
  | n + 1 => by
    rw [show guiltF ls (n + 1) = guiltIn ls n n (guiltF ls n) from rfl, guiltIn_bit, guiltF_bit j n]
    constructor
    · rintro (⟨i, m, h1, h2⟩ | ⟨m, h1, h2⟩)
      · exact ⟨i, m, by omega, h2⟩
      · exact ⟨n, m, by omega, h1, h2⟩
    · rintro ⟨i, m, h1, h2, h3⟩
      by_cases e : i = n
      · subst e; exact .inr ⟨m, h2, h3⟩
      · exact .inl ⟨i, m, by omega, h2, h3⟩
/-- P15.4. -/
theorem guilt_bit (j : Nat) : (guiltT ls).toNat.testBit j = true ↔ ∃ a b, a ∈ ls ∧ b ∈ ls ∧ clashB a b = true ∧ a.mask.toNat.testBit j = true ∧ b.mask.toNat.testBit j = true := by
  have hin : ∀ {i}, i < ls.length → lkAt ls i ∈ ls := fun {i} hi => by
    have : lkAt ls i = ls[i] := by simp [lkAt, hi]
    rw [this]; exact List.getElem_mem hi
  unfold guiltT
  rw [guiltF_bit]
  constructor
  · rintro ⟨i, m, h1, h2, h3⟩
    exact ⟨_, _, hin h1, hin (by omega), h3⟩
  · rintro ⟨a, b, ha, hb, hc, h1, h2⟩
    obtain ⟨i, hi, rfl⟩ := List.getElem_of_mem ha
    obtain ⟨k, hk, rfl⟩ := List.getElem_of_mem hb
    have ei : lkAt ls i = ls[i] := by simp [lkAt, hi]
    have ek : lkAt ls k = ls[k] := by simp [lkAt, hk]
    rcases Nat.lt_trichotomy i k with h | h | h
    · exact ⟨k, i, hk, h, by rw [ei, ek, clash_comm]; exact hc, by rw [ek]; exact h2, by rw [ei]; exact h1⟩
    · subst h; rw [clash_self] at hc; cases hc
    · exact ⟨i, k, hi, h, by rw [ei, ek]; exact hc, by rw [ei]; exact h1, by rw [ek]; exact h2⟩
theorem guilt_pair {a b : Lk} (ha : a ∈ ls) (hb : b ∈ ls) (hc : clashB a b = true) : subM (a.mask &&& b.mask) (guiltT ls) := subM_iff.2 fun i hi => by
  rw [bit_and, Bool.and_eq_true] at hi
  exact (guilt_bit i).2 ⟨a, b, ha, hb, hc, hi.1, hi.2⟩
end

end Go.Proofs.Ytkbifcfgcokmlaa
namespace Go.Proofs.Ytkbifcfgcokmlaa
set_option maxRecDepth 100000

/-- The sum of the first n. -/
def sumF (f : Nat → Nat) : Nat → Nat
  | 0 => 0
  | n + 1 => sumF f n + f n
theorem sumF_add (f g : Nat → Nat) : ∀ n, sumF (fun k => f k + g k) n = sumF f n + sumF g n
  | 0 => rfl
  | n + 1 => by simp only [sumF]; rw [sumF_add f g n]; omega
theorem sumF_congr {f g : Nat → Nat} : ∀ n, (∀ k, k < n → f k = g k) → sumF f n = sumF g n
  | 0, _ => rfl
  | n + 1, h => by simp only [sumF]; rw [sumF_congr n (fun k hk => h k (by omega)), h n (by omega)]
theorem sumF_zero : ∀ n, sumF (fun _ => 0) n = 0
  | 0 => rfl
  | n + 1 => by simp only [sumF]; rw [sumF_zero n]
theorem sumF_swap (f : Nat → Nat → Nat) (m : Nat) : ∀ n, sumF (fun k => sumF (f k) m) n = sumF (fun j => sumF (fun k => f k j) n) m
  | 0 => by simp only [sumF]; rw [sumF_zero]
  | n + 1 => by
    simp only [sumF]
    rw [sumF_swap f m n, ← sumF_add]
theorem sumF_le {f g : Nat → Nat} : ∀ n, (∀ k, k < n → f k ≤ g k) → sumF f n ≤ sumF g n
  | 0, _ => Nat.le_refl _
  | n + 1, h => by simp only [sumF]; have := sumF_le n (fun k hk => h k (by omega)); have := h n (by omega); omega
theorem sumF_part (f : Nat → Nat) {m n : Nat} (h : m ≤ n) : sumF f m ≤ sumF f n := by
  induction n with
  | zero => obtain rfl : m = 0 := by omega
            exact Nat.le_refl _
  | succ n ih =>
    by_cases e : m = n + 1
    · subst e; exact Nat.le_refl _
    · have := ih (by omega); simp only [sumF]; omega
theorem sumF_one (f : Nat → Nat) {n i : Nat} (h : i < n) (hz : ∀ k, k < n → k ≠ i → f k = 0) : sumF f n = f i := by
  induction n with
  | zero => omega
  | succ n ih =>
    simp only [sumF]
    by_cases e : i = n
    · subst e
      rw [sumF_congr (g := fun _ => 0) i (fun k hk => hz k (by omega) (by omega)), sumF_zero, Nat.zero_add]
    · rw [ih (by omega) (fun k hk hn => hz k (by omega) hn), hz n (by omega) (fun e2 => e e2.symm), Nat.add_zero]

theorem sum_filter (p : Nat → Bool) (g : Nat → Nat) : ∀ n, (((List.range n).filter p).map g).sum = sumF (fun c => if p c = true then g c else 0) n
  | 0 => rfl
  | n + 1 => by
    rw [List.range_succ, List.filter_append, List.map_append, List.sum_append, sum_filter p g n]
    simp only [sumF]
    congr 1
    by_cases h : p n = true <;> simp [h]
end Go.Proofs.Ytkbifcfgcokmlaa
