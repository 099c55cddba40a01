/-
  Trees, plainly: so many steps up, how deep, where two meet; what the laws of layer 7 want of them.
-/
import Derived.Test.YtnmljjmaejmlfaaTreeZ
namespace Go.Proofs.Ytnmljjmaejmlfaa

def upT (l : List Nd) : Nat → Nat → Int
  | 0, i => i
  | n + 1, i => if i = 0 then -1 else upT l n (up l i)
def deepF (l : List Nd) : Nat → Nat → Nat
  | 0, _ => 0
  | f + 1, i => if i = 0 then 0 else deepF l f (up l i) + 1
def deepT (l : List Nd) (i : Nat) : Nat := deepF l i i
section
variable {l : List Nd}
theorem deep_fuel (h : MayT l) : ∀ k, k < l.length → ∀ f, k ≤ f → deepF l f k = deepF l k k := by
  intro k
  induction k using Nat.strongRecOn with
  | _ k ih =>
    intro hk f hf
    by_cases h0 : k = 0
    · subst h0
      cases f with
      | zero => rfl
      | succ f => simp [deepF]
    · obtain ⟨_, hu, _⟩ := h.par (Nat.pos_of_ne_zero h0) hk
      obtain ⟨f', rfl⟩ : ∃ f', f = f' + 1 := ⟨f - 1, by omega⟩
      obtain ⟨k', hk'⟩ : ∃ k', k = k' + 1 := ⟨k - 1, by omega⟩
      have e1 := ih (up l k) hu (by omega) f' (by omega)
      have e2 := ih (up l k) hu (by omega) k' (by omega)
      rw [show deepF l k k = deepF l (k' + 1) k by rw [← hk']]
      simp only [deepF]
      rw [e1, e2]
theorem deep_zero : deepT l 0 = 0 := rfl
theorem deep_up (h : MayT l) {k : Nat} (h0 : 0 < k) (hk : k < l.length) : deepT l k = deepT l (up l k) + 1 := by
  obtain ⟨_, hu, _⟩ := h.par h0 hk
  obtain ⟨k', rfl⟩ : ∃ k', k = k' + 1 := ⟨k - 1, by omega⟩
  unfold deepT
  rw [show deepF l (k' + 1) (k' + 1) = if k' + 1 = 0 then 0 else deepF l k' (up l (k' + 1)) + 1 from rfl, if_neg (by omega), deep_fuel h _ (by omega) k' (by omega)]
theorem deep_le (h : MayT l) : ∀ k, k < l.length → deepT l k ≤ k := by
  intro k
  induction k using Nat.strongRecOn with
  | _ k ih =>
    intro hk
    by_cases h0 : k = 0
    · subst h0; exact Nat.le_refl _
    · obtain ⟨_, hu, _⟩ := h.par (Nat.pos_of_ne_zero h0) hk
      rw [deep_up h (Nat.pos_of_ne_zero h0) hk]
      have := ih _ hu (by omega)
      omega
theorem deep_above (h : MayT l) {a : Nat} : ∀ b, b < l.length → aboveT l a b = true → deepT l a ≤ deepT l b := by
  intro b
  induction b using Nat.strongRecOn with
  | _ b ih =>
    intro hb hab
    by_cases h0 : b = 0
    · subst h0
      rw [above_zero, decide_eq_true_iff] at hab
      subst hab; exact Nat.le_refl _
    · obtain ⟨_, hu, _⟩ := h.par (Nat.pos_of_ne_zero h0) hb
      rcases (above_iff h a (Nat.pos_of_ne_zero h0) hb).1 hab with rfl | h1
      · exact Nat.le_refl _
      · rw [deep_up h (Nat.pos_of_ne_zero h0) hb]
        have := ih _ hu (by omega) h1
        omega
/-- So many steps up: there, or past the first one. -/
theorem up_spec (h : MayT l) : ∀ (n i : Nat), i < l.length → (n ≤ deepT l i ∧ ∃ x : Nat, upT l n i = x ∧ x < l.length ∧ aboveT l x i = true ∧ deepT l x = deepT l i - n) ∨ (deepT l i < n ∧ upT l n i = -1)
  | 0, i, hi => .inl ⟨Nat.zero_le _, i, rfl, hi, above_refl h hi, by simp⟩
  | n + 1, i, hi => by
    by_cases h0 : i = 0
    · subst h0
      exact .inr ⟨by rw [deep_zero]; omega, by simp [upT]⟩
    · obtain ⟨_, hu, _⟩ := h.par (Nat.pos_of_ne_zero h0) hi
      have e : upT l (n + 1) i = upT l n (up l i) := by show (if i = 0 then (-1 : Int) else upT l n (up l i)) = _; rw [if_neg h0]
      have hd := deep_up h (Nat.pos_of_ne_zero h0) hi
      rw [e]
      rcases up_spec h n (up l i) (by omega) with ⟨h1, x, hx, hxl, ha, hdx⟩ | ⟨h1, hx⟩
      · exact .inl ⟨by omega, x, hx, hxl, (above_iff h x (Nat.pos_of_ne_zero h0) hi).2 (.inr ha), by omega⟩
      · exact .inr ⟨by omega, hx⟩
theorem up_add (h : MayT l) : ∀ (a b i x : Nat), i < l.length → upT l a i = (x : Int) → upT l (a + b) i = upT l b x
  | 0, b, i, x, _, e => by
    have : i = x := by have e : (i : Int) = x := e; omega
    subst this
    rw [Nat.zero_add]
  | a + 1, b, i, x, hi, e => by
    by_cases h0 : i = 0
    · subst h0
      have e : (-1 : Int) = x := e
      omega
    · obtain ⟨_, hu, _⟩ := h.par (Nat.pos_of_ne_zero h0) hi
      have e1 : ∀ m, upT l (m + 1) i = upT l m (up l i) := fun m => by show (if i = 0 then (-1 : Int) else upT l m (up l i)) = _; rw [if_neg h0]
      rw [e1] at e
      rw [show a + 1 + b = (a + b) + 1 by omega, e1]
      exact up_add h a b (up l i) x (by omega) e
theorem up_none (h : MayT l) {a b i : Nat} (hi : i < l.length) (e : upT l a i = -1) : upT l (a + b) i = -1 := by
  rcases up_spec h a i hi with ⟨_, x, hx, _⟩ | ⟨hd, _⟩
  · omega
  · rcases up_spec h (a + b) i hi with ⟨h1, _⟩ | ⟨_, h2⟩
    · omega
    · exact h2
theorem up_one (h : MayT l) {i : Nat} (hi : i < l.length) : upT l 1 i = (nd l i).parent := by
  by_cases h0 : i = 0
  · subst h0; rw [h.first]; rfl
  · rw [(h.par (Nat.pos_of_ne_zero h0) hi).1]
    show (if i = 0 then (-1 : Int) else ((up l i : Nat) : Int)) = _
    rw [if_neg h0]
/-- P7.3, of one place. -/
theorem law_up (h : MayT l) {i a b : Nat} (hi : i < l.length) :
    upT l (deepT l i) i = 0 ∧ upT l (deepT l i + 1) i = -1 ∧ deepT l i ≤ i ∧
    ((a ≤ deepT l i ∧ ∃ x : Nat, upT l a i = x ∧ x < l.length ∧ upT l b x = upT l (a + b) i ∧ deepT l x + a = deepT l i ∧ aboveT l x i = true) ∨ (deepT l i < a ∧ upT l a i = -1)) := by
  refine ⟨?_, ?_, deep_le h i hi, ?_⟩
  · rcases up_spec h (deepT l i) i hi with ⟨_, x, hx, hxl, _, hd⟩ | ⟨h1, _⟩
    · rw [hx]
      have hd : deepT l x = 0 := by omega
      by_cases h0 : x = 0
      · subst h0; rfl
      · have := deep_up h (Nat.pos_of_ne_zero h0) hxl; omega
    · omega
  · rcases up_spec h (deepT l i + 1) i hi with ⟨h1, _⟩ | ⟨_, h2⟩
    · omega
    · exact h2
  · rcases up_spec h a i hi with ⟨h1, x, hx, hxl, ha, hd⟩ | h1
    · exact .inl ⟨h1, x, hx, hxl, (up_add h a b i x hi hx).symm, by omega, ha⟩
    · exact .inr h1

/-! ### where two meet -/
def bothB (l : List Nd) (a b i : Nat) : Bool := aboveT l i a && aboveT l i b
/-- The greatest place below n that is above both; -1, if there is none. -/
def meetF (l : List Nd) (a b : Nat) : Nat → Int
  | 0 => -1
  | n + 1 => if bothB l a b n = true then n else meetF l a b n
def meetT (l : List Nd) (a b : Nat) : Int := meetF l a b l.length
theorem meetF_spec (a b : Nat) : ∀ n, (meetF l a b n = -1 ∧ ∀ i, i < n → bothB l a b i = false) ∨ ∃ m : Nat, meetF l a b n = m ∧ m < n ∧ bothB l a b m = true ∧ ∀ i, i < n → bothB l a b i = true → i ≤ m
  | 0 => .inl ⟨rfl, fun i hi => by omega⟩
  | n + 1 => by
    by_cases hb : bothB l a b n = true
    · exact .inr ⟨n, by unfold meetF; rw [if_pos hb], by omega, hb, fun i hi _ => by omega⟩
    · have e : meetF l a b (n + 1) = meetF l a b n := by
        rw [show meetF l a b (n + 1) = if bothB l a b n = true then (n : Int) else meetF l a b n from rfl, if_neg hb]
      rw [e]
      have step : ∀ i, i < n + 1 → bothB l a b i = true → i < n := fun i hi h1 => by
        by_cases e : i = n
        · subst e; exact absurd h1 hb
        · omega
      rcases meetF_spec a b n with ⟨e1, hn⟩ | ⟨m, e1, hm, h1, h2⟩
      · refine .inl ⟨e1, fun i hi => ?_⟩
        by_cases hin : i < n
        · exact hn i hin
        · obtain rfl : i = n := by omega
          simpa using hb
      · exact .inr ⟨m, e1, by omega, h1, fun i hi h3 => h2 i (step i hi h3) h3⟩
theorem meet_spec (h : MayT l) {a b : Nat} (ha : a < l.length) (hb : b < l.length) :
    ∃ m : Nat, meetT l a b = m ∧ m < l.length ∧ aboveT l m a = true ∧ aboveT l m b = true ∧ ∀ c, aboveT l c a = true → aboveT l c b = true → aboveT l c m = true := by
  rcases meetF_spec (l := l) a b l.length with ⟨_, hn⟩ | ⟨m, e, hm, h1, h2⟩
  · have := hn 0 h.pos
    unfold bothB at this
    rw [above_first h a ha, above_first h b hb] at this
    cases this
  · have h1' := h1
    unfold bothB at h1'
    rw [Bool.and_eq_true] at h1'
    refine ⟨m, e, hm, h1'.1, h1'.2, fun c hca hcb => ?_⟩
    have hcl : c ≤ m := h2 c (by have := above_le h c a ha hca; omega) (by unfold bothB; rw [hca, hcb]; rfl)
    rcases above_chain h a ha hca h1'.1 with h3 | h3
    · exact h3
    · have := above_le h m c (by omega) h3
      obtain rfl : c = m := by omega
      exact above_refl h hm
theorem meet_comm (a b : Nat) : meetT l a b = meetT l b a := by
  unfold meetT
  have : ∀ n, meetF l a b n = meetF l b a n := by
    intro n
    induction n with
    | zero => rfl
    | succ n ih =>
      rw [show meetF l a b (n + 1) = if bothB l a b n = true then (n : Int) else meetF l a b n from rfl, show meetF l b a (n + 1) = if bothB l b a n = true then (n : Int) else meetF l b a n from rfl, ih]
      unfold bothB
      rw [Bool.and_comm]
  exact this _
theorem meet_is (h : MayT l) {a b : Nat} (ha : a < l.length) (hb : b < l.length) : meetT l a b = (a : Int) ↔ aboveT l a b = true := by
  obtain ⟨m, e, hm, h1, h2, h3⟩ := meet_spec h ha hb
  rw [e]
  constructor
  · intro e2
    obtain rfl : m = a := by omega
    exact h2
  · intro hab
    have h4 := h3 a (above_refl h ha) hab
    have h5 := above_le h a m hm h4
    have h6 := above_le h m a ha h1
    omega
theorem law_deep (h : MayT l) {i k : Nat} (hi : i < l.length) (hk : k < l.length) : ∃ m : Nat, meetT l i k = m ∧ m < l.length ∧ deepT l m ≤ deepT l i ∧ deepT l m ≤ deepT l k := by
  obtain ⟨m, e, hm, h1, h2, _⟩ := meet_spec h hi hk
  exact ⟨m, e, hm, deep_above h i hi h1, deep_above h k hk h2⟩
end
end Go.Proofs.Ytnmljjmaejmlfaa
