/-
  A node's line, plainly: its place, its parent's, and so on.
-/
import Derived.Test.YtjmpgphoiehdmaaGT
namespace Go.Proofs.Ytjmpgphoiehdmaa

def lineF (l : List Nd) : Nat → Nat → List Nat
  | 0, i => [i]
  | f + 1, i => if i = 0 then [i] else i :: lineF l f (up l i)
def lineT (l : List Nd) (i : Nat) : List Nat := lineF l i i
section
variable {l : List Nd}
theorem lineF_fuel (h : MayT l) : ∀ (k : Nat), k < l.length → ∀ f, k ≤ f → lineF l f k = lineF l k k := by
  intro k
  induction k using Nat.strongRecOn with
  | _ k ih =>
    intro hk f hf
    by_cases h0 : k = 0
    · subst h0
      cases f with
      | zero => rfl
      | succ f => simp [lineF]
    · obtain ⟨_, hu, _⟩ := h.par (Nat.pos_of_ne_zero h0) hk
      obtain ⟨f', rfl⟩ : ∃ f', f = f' + 1 := ⟨f - 1, by omega⟩
      obtain ⟨k', hk'⟩ : ∃ k', k = k' + 1 := ⟨k - 1, by omega⟩
      have e1 := ih (up l k) hu (by omega) f' (by omega)
      have e2 := ih (up l k) hu (by omega) k' (by omega)
      rw [show lineF l k k = lineF l (k' + 1) k by rw [← hk']]
      simp only [lineF]
      rw [e1, e2]
theorem line_zero : lineT l 0 = [0] := rfl
theorem line_up (h : MayT l) {k : Nat} (h0 : 0 < k) (hk : k < l.length) : lineT l k = k :: lineT l (up l k) := by
  obtain ⟨_, hu, _⟩ := h.par h0 hk
  obtain ⟨k', rfl⟩ : ∃ k', k = k' + 1 := ⟨k - 1, by omega⟩
  unfold lineT
  rw [show lineF l (k' + 1) (k' + 1) = if k' + 1 = 0 then [k' + 1] else (k' + 1) :: lineF l k' (up l (k' + 1)) from rfl]
  rw [if_neg (Nat.succ_ne_zero _), lineF_fuel h (up l (k' + 1)) (by omega) k' (by omega)]
theorem line_cons (h : MayT l) {k : Nat} (hk : k < l.length) : lineT l k = k :: (if k = 0 then [] else lineT l (up l k)) := by
  by_cases h0 : k = 0
  · subst h0; rfl
  · rw [if_neg h0, line_up h (Nat.pos_of_ne_zero h0) hk]
theorem line_mem (h : MayT l) (i : Nat) : ∀ k, k < l.length → (i ∈ lineT l k ↔ aboveT l i k = true) := by
  intro k
  induction k using Nat.strongRecOn with
  | _ k ih =>
    intro hk
    by_cases h0 : k = 0
    · subst h0
      rw [line_zero, above_zero, List.mem_singleton, decide_eq_true_iff]
    · obtain ⟨_, hu, _⟩ := h.par (Nat.pos_of_ne_zero h0) hk
      rw [line_up h (Nat.pos_of_ne_zero h0) hk, above_iff h i (Nat.pos_of_ne_zero h0) hk, List.mem_cons, ih _ hu (by omega)]
theorem line_lt (h : MayT l) {k : Nat} (hk : k < l.length) {i : Nat} (hi : i ∈ lineT l k) : i < l.length := by
  have := above_le h i k hk ((line_mem h i k hk).1 hi)
  omega
theorem line_len (h : MayT l) : ∀ k, k < l.length → (lineT l k).length ≤ k + 1 := by
  intro k
  induction k using Nat.strongRecOn with
  | _ k ih =>
    intro hk
    by_cases h0 : k = 0
    · subst h0; rw [line_zero]; exact Nat.le_refl _
    · obtain ⟨_, hu, _⟩ := h.par (Nat.pos_of_ne_zero h0) hk
      rw [line_up h (Nat.pos_of_ne_zero h0) hk, List.length_cons]
      have := ih _ hu (by omega)
      omega
/-- The first one on a line that is no later than a slot is the ancestor there. -/
theorem line_at (h : MayT l) (s : Nat) : ∀ k, k < l.length → ∀ (q r : List Nat) (x : Nat), lineT l k = q ++ x :: r → (∀ y ∈ q, s < sl l y) → sl l x ≤ s → atT l k s = x := by
  intro k
  induction k using Nat.strongRecOn with
  | _ k ih =>
    intro hk q r x e hq hx
    rw [line_cons h hk] at e
    cases q with
    | nil =>
      rw [List.nil_append] at e
      injection e with e1 _
      subst e1
      exact at_self h hk hx
    | cons y q =>
      rw [List.cons_append] at e
      injection e with e1 e2
      subst e1
      have h1 := hq k List.mem_cons_self
      by_cases h0 : k = 0
      · rw [if_pos h0] at e2
        cases q <;> cases e2
      · rw [if_neg h0] at e2
        obtain ⟨_, hu, _⟩ := h.par (Nat.pos_of_ne_zero h0) hk
        rw [at_up h s (Nat.pos_of_ne_zero h0) hk, if_neg (by omega)]
        exact ih _ hu (by omega) q r x e2 (fun z hz => hq z (List.mem_cons_of_mem _ hz)) hx
theorem line_not (h : MayT l) (s : Nat) {k : Nat} (hk : k < l.length) (ha : ∀ y ∈ lineT l k, s < sl l y) : atT l k s = -1 := by
  rcases at_spec h s k hk with ⟨e, _⟩ | ⟨n, _, hn, hab, hs, _⟩
  · exact e
  · have := ha n ((line_mem h n k hk).2 hab)
    omega
end
end Go.Proofs.Ytjmpgphoiehdmaa
