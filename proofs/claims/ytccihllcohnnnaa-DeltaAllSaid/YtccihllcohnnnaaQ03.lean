/-
  Trees, plainly: who may be, who is above whom, ancestors at slots, children, what is put, what is cut; no word of the program.
-/
import Derived.Test.YtccihllcohnnnaaQ02
namespace Go.Proofs.Ytccihllcohnnnaa
set_option maxRecDepth 100000

structure Nd where
  root : Rt
  parent : Int
  slot : UInt64
  just : UInt64
theorem Nd.ext {x y : Nd} (h0 : x.root = y.root) (h1 : x.parent = y.parent) (h2 : x.slot = y.slot) (h3 : x.just = y.just) : x = y := by cases x; cases y; simp_all
instance : DecidableEq Nd := fun x y => decidable_of_iff (x.root = y.root ∧ x.parent = y.parent ∧ x.slot = y.slot ∧ x.just = y.just) ⟨fun h => Nd.ext h.1 h.2.1 h.2.2.1 h.2.2.2, fun h => by subst h; exact ⟨rfl, rfl, rfl, rfl⟩⟩

def nd (l : List Nd) (i : Nat) : Nd := l.getD i ⟨zr, 0, 0, 0⟩
theorem nd_in (l : List Nd) {i : Nat} (h : i < l.length) : nd l i = l[i] := by simp [nd, h]
def sl (l : List Nd) (i : Nat) : Nat := (nd l i).slot.toNat
def up (l : List Nd) (i : Nat) : Nat := (nd l i).parent.toNat
/-- A node at its place. -/
def NodeOk (l : List Nd) (i : Nat) : Prop :=
  sl l i ≤ 1099511627776 ∧ (i = 0 → (nd l i).parent = -1) ∧ (0 < i → 0 ≤ (nd l i).parent ∧ (nd l i).parent < i ∧ sl l (up l i) < sl l i) ∧ ∀ k, k < i → (nd l k).root ≠ (nd l i).root
instance (l : List Nd) (i : Nat) : Decidable (NodeOk l i) := by unfold NodeOk; exact inferInstance
def MayT (l : List Nd) : Prop := 1 ≤ l.length ∧ l.length ≤ 12 ∧ ∀ i, i < l.length → NodeOk l i
instance (l : List Nd) : Decidable (MayT l) := by unfold MayT; exact inferInstance

section
variable {l : List Nd}
theorem MayT.pos (h : MayT l) : 0 < l.length := h.1
theorem MayT.le (h : MayT l) : l.length ≤ 12 := h.2.1
theorem MayT.first (h : MayT l) : (nd l 0).parent = -1 := (h.2.2 0 h.pos).2.1 rfl
theorem MayT.par (h : MayT l) {k : Nat} (h0 : 0 < k) (hk : k < l.length) : (nd l k).parent = (up l k : Int) ∧ up l k < k ∧ sl l (up l k) < sl l k := by
  obtain ⟨a, b, c⟩ := (h.2.2 k hk).2.2.1 h0
  unfold up at *
  exact ⟨by omega, by omega, c⟩
theorem MayT.slot (h : MayT l) {k : Nat} (hk : k < l.length) : sl l k ≤ 1099511627776 := (h.2.2 k hk).1
theorem MayT.roots (h : MayT l) {i k : Nat} (hi : i < l.length) (hk : k < l.length) (e : (nd l i).root = (nd l k).root) : i = k := by
  rcases Nat.lt_trichotomy i k with h1 | h1 | h1
  · exact absurd e ((h.2.2 k hk).2.2.2 i h1)
  · exact h1
  · exact absurd e.symm ((h.2.2 i hi).2.2.2 k h1)

/-! ### above -/
def abv (l : List Nd) : Nat → Nat → Nat → Bool
  | 0, i, k => decide (k = i)
  | f + 1, i, k => if i < k then abv l f i (up l k) else decide (k = i)
def aboveT (l : List Nd) (i k : Nat) : Bool := abv l k i k
theorem abv_fuel (h : MayT l) (i : Nat) : ∀ (k : Nat), k < l.length → ∀ f, k ≤ f → abv l f i k = abv l k i k := by
  intro k
  induction k using Nat.strongRecOn with
  | _ k ih =>
    intro hk f hf
    by_cases h0 : k = 0
    · subst h0
      cases f with
      | zero => rfl
      | succ f => simp [abv]
    · obtain ⟨_, hu, _⟩ := h.par (Nat.pos_of_ne_zero h0) hk
      obtain ⟨f', rfl⟩ : ∃ f', f = f' + 1 := ⟨f - 1, by omega⟩
      obtain ⟨k', hk'⟩ : ∃ k', k = k' + 1 := ⟨k - 1, by omega⟩
      have e1 := ih (up l k) hu (by omega) f' (by omega)
      have e2 := ih (up l k) hu (by omega) k' (by omega)
      rw [show abv l k i k = abv l (k' + 1) i k by rw [← hk']]
      simp only [abv]
      rw [e1, e2]
theorem above_zero (i : Nat) : aboveT l i 0 = decide (i = 0) := by
  unfold aboveT abv
  rw [Bool.eq_iff_iff, decide_eq_true_iff, decide_eq_true_iff]
  exact ⟨fun h => h.symm, fun h => h.symm⟩
theorem above_up (h : MayT l) (i : Nat) {k : Nat} (h0 : 0 < k) (hk : k < l.length) : aboveT l i k = if i < k then aboveT l i (up l k) else decide (k = i) := by
  obtain ⟨_, hu, _⟩ := h.par h0 hk
  obtain ⟨k', rfl⟩ : ∃ k', k = k' + 1 := ⟨k - 1, by omega⟩
  unfold aboveT
  rw [show abv l (k' + 1) i (k' + 1) = if i < k' + 1 then abv l k' i (up l (k' + 1)) else decide (k' + 1 = i) from rfl]
  rw [abv_fuel h i (up l (k' + 1)) (by omega) k' (by omega)]
theorem above_le (h : MayT l) (i : Nat) : ∀ k, k < l.length → aboveT l i k = true → i ≤ k := by
  intro k
  induction k using Nat.strongRecOn with
  | _ k ih =>
    intro hk ha
    by_cases h0 : k = 0
    · subst h0; rw [above_zero, decide_eq_true_iff] at ha; omega
    · obtain ⟨_, hu, _⟩ := h.par (Nat.pos_of_ne_zero h0) hk
      rw [above_up h i (Nat.pos_of_ne_zero h0) hk] at ha
      split at ha
      · have := ih _ hu (by omega) ha; omega
      · rw [decide_eq_true_iff] at ha; omega
theorem above_iff (h : MayT l) (i : Nat) {k : Nat} (h0 : 0 < k) (hk : k < l.length) : aboveT l i k = true ↔ i = k ∨ aboveT l i (up l k) = true := by
  obtain ⟨_, hu, _⟩ := h.par h0 hk
  rw [above_up h i h0 hk]
  constructor
  · intro ha
    split at ha
    · exact .inr ha
    · rw [decide_eq_true_iff] at ha; exact .inl ha.symm
  · rintro (rfl | ha)
    · rw [if_neg (by omega), decide_eq_true_iff]
    · have := above_le h i _ (by omega) ha
      rw [if_pos (by omega)]; exact ha
theorem above_refl (h : MayT l) {k : Nat} (hk : k < l.length) : aboveT l k k = true := by
  by_cases h0 : k = 0
  · subst h0; rw [above_zero]; rfl
  · rw [above_iff h k (Nat.pos_of_ne_zero h0) hk]; exact .inl rfl
theorem above_first (h : MayT l) : ∀ k, k < l.length → aboveT l 0 k = true := by
  intro k
  induction k using Nat.strongRecOn with
  | _ k ih =>
    intro hk
    by_cases h0 : k = 0
    · subst h0; rw [above_zero]; rfl
    · obtain ⟨_, hu, _⟩ := h.par (Nat.pos_of_ne_zero h0) hk
      rw [above_iff h 0 (Nat.pos_of_ne_zero h0) hk]
      exact .inr (ih _ hu (by omega))
theorem above_trans (h : MayT l) {a b : Nat} (hab : aboveT l a b = true) : ∀ c, c < l.length → aboveT l b c = true → aboveT l a c = true := by
  intro c
  induction c using Nat.strongRecOn with
  | _ c ih =>
    intro hc hbc
    by_cases h0 : c = 0
    · subst h0
      rw [above_zero, decide_eq_true_iff] at hbc
      subst hbc; exact hab
    · obtain ⟨_, hu, _⟩ := h.par (Nat.pos_of_ne_zero h0) hc
      rcases (above_iff h b (Nat.pos_of_ne_zero h0) hc).1 hbc with rfl | hb
      · exact hab
      · exact (above_iff h a (Nat.pos_of_ne_zero h0) hc).2 (.inr (ih _ hu (by omega) hb))
theorem above_chain (h : MayT l) {a c : Nat} : ∀ b, b < l.length → aboveT l a b = true → aboveT l c b = true → aboveT l a c = true ∨ aboveT l c a = true := by
  intro b
  induction b using Nat.strongRecOn with
  | _ b ih =>
    intro hb ha hc
    by_cases h0 : b = 0
    · subst h0
      rw [above_zero, decide_eq_true_iff] at ha hc
      subst ha hc
      exact .inl (by rw [above_zero]; rfl)
    · obtain ⟨_, hu, _⟩ := h.par (Nat.pos_of_ne_zero h0) hb
      rcases (above_iff h a (Nat.pos_of_ne_zero h0) hb).1 ha with rfl | ha'
      · exact .inr hc
      · rcases (above_iff h c (Nat.pos_of_ne_zero h0) hb).1 hc with rfl | hc'
        · exact .inl ha
        · exact ih _ hu (by omega) ha' hc'
theorem above_slot (h : MayT l) {a : Nat} : ∀ b, b < l.length → aboveT l a b = true → sl l a ≤ sl l b := by
  intro b
  induction b using Nat.strongRecOn with
  | _ b ih =>
    intro hb ha
    by_cases h0 : b = 0
    · subst h0
      rw [above_zero, decide_eq_true_iff] at ha
      subst ha; exact Nat.le_refl _
    · obtain ⟨_, hu, hs⟩ := h.par (Nat.pos_of_ne_zero h0) hb
      rcases (above_iff h a (Nat.pos_of_ne_zero h0) hb).1 ha with rfl | ha'
      · exact Nat.le_refl _
      · have := ih _ hu (by omega) ha'; omega

/-! ### the ancestor at a slot -/
def atF (l : List Nd) (s : Nat) : Nat → Nat → Int
  | 0, i => if sl l i ≤ s then i else -1
  | f + 1, i => if sl l i ≤ s then i else if i = 0 then -1 else atF l s f (up l i)
def atT (l : List Nd) (i s : Nat) : Int := atF l s i i
theorem atF_fuel (h : MayT l) (s : Nat) : ∀ (k : Nat), k < l.length → ∀ f, k ≤ f → atF l s f k = atF l s k k := by
  intro k
  induction k using Nat.strongRecOn with
  | _ k ih =>
    intro hk f hf
    by_cases h0 : k = 0
    · subst h0
      cases f with
      | zero => rfl
      | succ f => simp [atF]
    · obtain ⟨_, hu, _⟩ := h.par (Nat.pos_of_ne_zero h0) hk
      obtain ⟨f', rfl⟩ : ∃ f', f = f' + 1 := ⟨f - 1, by omega⟩
      obtain ⟨k', hk'⟩ : ∃ k', k = k' + 1 := ⟨k - 1, by omega⟩
      have e1 := ih (up l k) hu (by omega) f' (by omega)
      have e2 := ih (up l k) hu (by omega) k' (by omega)
      rw [show atF l s k k = atF l s (k' + 1) k by rw [← hk']]
      simp only [atF]
      rw [e1, e2]
theorem at_up (h : MayT l) (s : Nat) {k : Nat} (h0 : 0 < k) (hk : k < l.length) : atT l k s = if sl l k ≤ s then (k : Int) else atT l (up l k) s := by
  obtain ⟨_, hu, _⟩ := h.par h0 hk
  obtain ⟨k', rfl⟩ : ∃ k', k = k' + 1 := ⟨k - 1, by omega⟩
  unfold atT
  rw [show atF l s (k' + 1) (k' + 1) = if sl l (k' + 1) ≤ s then ((k' + 1 : Nat) : Int) else if k' + 1 = 0 then -1 else atF l s k' (up l (k' + 1)) from rfl]
  rw [if_neg (show ¬ k' + 1 = 0 by omega), atF_fuel h s (up l (k' + 1)) (by omega) k' (by omega)]
theorem at_zero (s : Nat) : atT l 0 s = if sl l 0 ≤ s then (0 : Int) else -1 := rfl
/-- What the ancestor at a slot is. -/
theorem at_spec (h : MayT l) (s : Nat) : ∀ i, i < l.length → (atT l i s = -1 ∧ ∀ k, aboveT l k i = true → s < sl l k) ∨ ∃ n : Nat, atT l i s = n ∧ n < l.length ∧ aboveT l n i = true ∧ sl l n ≤ s ∧ ∀ k, aboveT l k i = true → sl l k ≤ s → aboveT l k n = true := by
  intro i
  induction i using Nat.strongRecOn with
  | _ i ih =>
    intro hi
    by_cases hs : sl l i ≤ s
    · refine .inr ⟨i, ?_, hi, above_refl h hi, hs, fun k hk _ => hk⟩
      by_cases h0 : i = 0
      · subst h0; rw [at_zero, if_pos hs]; rfl
      · rw [at_up h s (Nat.pos_of_ne_zero h0) hi, if_pos hs]
    · by_cases h0 : i = 0
      · subst h0
        refine .inl ⟨by rw [at_zero, if_neg hs], fun k hk => ?_⟩
        rw [above_zero, decide_eq_true_iff] at hk
        subst hk; omega
      · obtain ⟨_, hu, _⟩ := h.par (Nat.pos_of_ne_zero h0) hi
        rw [at_up h s (Nat.pos_of_ne_zero h0) hi, if_neg hs]
        rcases ih _ hu (by omega) with ⟨e, hn⟩ | ⟨n, e, hn, ha, hsn, hall⟩
        · refine .inl ⟨e, fun k hk => ?_⟩
          rcases (above_iff h k (Nat.pos_of_ne_zero h0) hi).1 hk with rfl | hk'
          · omega
          · exact hn k hk'
        · refine .inr ⟨n, e, hn, (above_iff h n (Nat.pos_of_ne_zero h0) hi).2 (.inr ha), hsn, fun k hk hks => ?_⟩
          rcases (above_iff h k (Nat.pos_of_ne_zero h0) hi).1 hk with rfl | hk'
          · omega
          · exact hall k hk' hks
end
end Go.Proofs.Ytccihllcohnnnaa
