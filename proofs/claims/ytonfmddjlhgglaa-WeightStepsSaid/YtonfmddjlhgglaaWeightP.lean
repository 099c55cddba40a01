/-
  Trees, plainly: sums over all that descend from a node; what the laws of layer 8 want of them.
-/
import Derived.Test.YtonfmddjlhgglaaTreeZ
namespace Go.Proofs.Ytonfmddjlhgglaa

/-- The sum of the first n. -/
def sumF (f : Nat → Nat) : Nat → Nat
  | 0 => 0
  | n + 1 => sumF f n + f n
theorem sumF_add (f g : Nat → Nat) : ∀ n, sumF (fun k => f k + g k) n = sumF f n + sumF g n
  | 0 => rfl
  | n + 1 => by simp only [sumF]; rw [sumF_add f g n]; omega
theorem sumF_congr {f g : Nat → Nat} : ∀ n, (∀ k, k < n → f k = g k) → sumF f n = sumF g n
  | 0, _ => rfl
  | n + 1, h => by simp only [sumF]; rw [sumF_congr n (fun k hk => h k (by omega)), h n (by omega)]
theorem sumF_zero : ∀ n, sumF (fun _ => 0) n = 0
  | 0 => rfl
  | n + 1 => by simp only [sumF]; rw [sumF_zero n]
theorem sumF_swap (f : Nat → Nat → Nat) (m : Nat) : ∀ n, sumF (fun k => sumF (f k) m) n = sumF (fun j => sumF (fun k => f k j) n) m
  | 0 => by simp only [sumF]; rw [sumF_zero]
  | n + 1 => by
    simp only [sumF]
    rw [sumF_swap f m n, ← sumF_add]
theorem sumF_le {f g : Nat → Nat} : ∀ n, (∀ k, k < n → f k ≤ g k) → sumF f n ≤ sumF g n
  | 0, _ => Nat.le_refl _
  | n + 1, h => by simp only [sumF]; have := sumF_le n (fun k hk => h k (by omega)); have := h n (by omega); omega
theorem sumF_part (f : Nat → Nat) {m n : Nat} (h : m ≤ n) : sumF f m ≤ sumF f n := by
  induction n with
  | zero => obtain rfl : m = 0 := by omega
            exact Nat.le_refl _
  | succ n ih =>
    by_cases e : m = n + 1
    · subst e; exact Nat.le_refl _
    · have := ih (by omega); simp only [sumF]; omega
theorem sumF_one (f : Nat → Nat) {n i : Nat} (h : i < n) (hz : ∀ k, k < n → k ≠ i → f k = 0) : sumF f n = f i := by
  induction n with
  | zero => omega
  | succ n ih =>
    simp only [sumF]
    by_cases e : i = n
    · subst e
      rw [sumF_congr (g := fun _ => 0) i (fun k hk => hz k (by omega) (by omega)), sumF_zero, Nat.zero_add]
    · rw [ih (by omega) (fun k hk hn => hz k (by omega) hn), hz n (by omega) (fun e2 => e e2.symm), Nat.add_zero]

/-- What a node weighs, of what each has of its own. -/
def subT (l : List Nd) (f : Nat → Nat) (i : Nat) : Nat := sumF (fun k => if aboveT l i k = true then f k else 0) l.length
section
variable {l : List Nd}
theorem sub_add (f g : Nat → Nat) (i : Nat) : subT l (fun k => f k + g k) i = subT l f i + subT l g i := by
  unfold subT
  rw [← sumF_add]
  refine sumF_congr _ fun k _ => ?_
  dsimp only
  split <;> rfl
theorem sub_congr {f g : Nat → Nat} (i : Nat) (h : ∀ k, k < l.length → f k = g k) : subT l f i = subT l g i := by
  unfold subT
  refine sumF_congr _ fun k hk => ?_
  split
  · exact h k hk
  · rfl
theorem sub_le {f g : Nat → Nat} (i : Nat) (h : ∀ k, k < l.length → f k ≤ g k) : subT l f i ≤ subT l g i := by
  unfold subT
  refine sumF_le _ fun k hk => ?_
  split
  · exact h k hk
  · exact Nat.le_refl _
theorem sub_first (h : MayT l) (f : Nat → Nat) : subT l f 0 = sumF f l.length := by
  unfold subT
  refine sumF_congr _ fun k hk => ?_
  rw [if_pos (above_first h k hk)]
theorem sub_bound (f : Nat → Nat) (i : Nat) (b : Nat) (h : ∀ k, k < l.length → f k ≤ b) : subT l f i ≤ l.length * b := by
  unfold subT
  have : ∀ n, n ≤ l.length → sumF (fun k => if aboveT l i k = true then f k else 0) n ≤ n * b := by
    intro n
    induction n with
    | zero => intro _; simp [sumF]
    | succ n ih =>
      intro hn
      simp only [sumF]
      have h1 := ih (by omega)
      have h2 : (if aboveT l i n = true then f n else 0) ≤ b := by
        split
        · exact h n (by omega)
        · omega
      rw [Nat.add_mul, Nat.one_mul]
      omega
  exact this _ (Nat.le_refl _)
/-- Of a node's children just one is above what the node is above, unless it is itself. -/
theorem kid_above (h : MayT l) (i : Nat) : ∀ k, k < l.length → sumF (fun c => if (nd l c).parent = (i : Int) ∧ aboveT l c k = true then 1 else 0) l.length = if aboveT l i k = true ∧ k ≠ i then 1 else 0 := by
  intro k
  induction k using Nat.strongRecOn with
  | _ k ih =>
    intro hk
    by_cases h0 : k = 0
    · subst h0
      rw [sumF_congr (g := fun _ => 0) _ (fun c _ => ?_), sumF_zero, if_neg ?_]
      · rintro ⟨h1, h2⟩
        rw [above_zero, decide_eq_true_iff] at h1
        omega
      · rw [if_neg]
        rintro ⟨h1, h2⟩
        rw [above_zero, decide_eq_true_iff] at h2
        subst h2
        rw [h.first] at h1
        omega
    · have hp := Nat.pos_of_ne_zero h0
      obtain ⟨hpar, hu, _⟩ := h.par hp hk
      have e : ∀ c, c < l.length → (if (nd l c).parent = (i : Int) ∧ aboveT l c k = true then 1 else 0) = (if c = k ∧ (nd l c).parent = (i : Int) then 1 else 0) + (if (nd l c).parent = (i : Int) ∧ aboveT l c (up l k) = true then 1 else 0) := by
        intro c _
        by_cases hc : c = k
        · subst hc
          have hn : aboveT l c (up l c) = false := by
            rw [← Bool.not_eq_true]; intro e
            have := above_le h c _ (by omega) e; omega
          rw [hn, above_refl h hk]
          simp
        · have : aboveT l c k = aboveT l c (up l k) := by
            rw [Bool.eq_iff_iff, above_iff h c hp hk]
            exact ⟨fun e => e.resolve_left hc, .inr⟩
          rw [this]
          simp [hc]
      rw [sumF_congr _ e, sumF_add, ih _ hu (by omega)]
      rw [sumF_one (fun c => if c = k ∧ (nd l c).parent = (i : Int) then 1 else 0) hk (fun c _ hc => by rw [if_neg]; rintro ⟨h1, _⟩; exact hc h1)]
      by_cases hi : up l k = i
      · have h1 : (nd l k).parent = (i : Int) := by rw [hpar, hi]
        have h2 : aboveT l i k = true := (above_iff h i hp hk).2 (.inr (by rw [hi]; exact above_refl h (by omega)))
        rw [if_pos ⟨rfl, h1⟩, if_neg (fun e => e.2 hi), if_pos ⟨h2, by omega⟩]
      · have h1 : ¬ (nd l k).parent = (i : Int) := by rw [hpar]; omega
        rw [if_neg (fun e => h1 e.2), Nat.zero_add]
        by_cases hki : k = i
        · subst hki
          have hn : aboveT l k (up l k) = false := by
            rw [← Bool.not_eq_true]; intro e
            have := above_le h k _ (by omega) e; omega
          rw [hn]
          simp
        · have : aboveT l i k = aboveT l i (up l k) := by
            rw [Bool.eq_iff_iff, above_iff h i hp hk]
            exact ⟨fun e => e.resolve_left (fun e2 => hki e2.symm), .inr⟩
          rw [this]
          simp [hi, hki]
/-- A node weighs its own, and what its children weigh. -/
theorem sub_kids (h : MayT l) (f : Nat → Nat) {i : Nat} (hi : i < l.length) : subT l f i = f i + sumF (fun c => if (nd l c).parent = (i : Int) then subT l f c else 0) l.length := by
  have e1 : sumF (fun c => if (nd l c).parent = (i : Int) then subT l f c else 0) l.length = sumF (fun c => sumF (fun k => if (nd l c).parent = (i : Int) ∧ aboveT l c k = true then f k else 0) l.length) l.length := by
    refine sumF_congr _ fun c _ => ?_
    by_cases hc : (nd l c).parent = (i : Int)
    · rw [if_pos hc]
      unfold subT
      refine sumF_congr _ fun k _ => ?_
      simp [hc]
    · rw [if_neg hc, sumF_congr (g := fun _ => 0) _ (fun k _ => by rw [if_neg (fun e => hc e.1)]), sumF_zero]
  rw [e1, sumF_swap]
  have e2 : ∀ k, k < l.length → sumF (fun c => if (nd l c).parent = (i : Int) ∧ aboveT l c k = true then f k else 0) l.length = if aboveT l i k = true ∧ k ≠ i then f k else 0 := by
    intro k hk
    have := kid_above h i k hk
    have e3 : ∀ n, sumF (fun c => if (nd l c).parent = (i : Int) ∧ aboveT l c k = true then f k else 0) n = sumF (fun c => if (nd l c).parent = (i : Int) ∧ aboveT l c k = true then 1 else 0) n * f k := by
      intro n
      induction n with
      | zero => simp [sumF]
      | succ n ih =>
        simp only [sumF]
        rw [ih, Nat.add_mul]
        congr 1
        split <;> simp
    rw [e3, this]
    split <;> simp
  rw [sumF_congr _ e2]
  have e4 : f i = sumF (fun k => if k = i then f k else 0) l.length := by
    rw [sumF_one (fun k => if k = i then f k else 0) hi (fun k _ hk => by rw [if_neg hk]), if_pos rfl]
  rw [e4, ← sumF_add]
  unfold subT
  refine sumF_congr _ fun k _ => ?_
  by_cases hk : k = i
  · subst hk
    rw [above_refl h hi]
    simp
  · simp [hk]
/-- The same, over the list of the children. -/
theorem sum_filter (p : Nat → Bool) (g : Nat → Nat) : ∀ n, (((List.range n).filter p).map g).sum = sumF (fun c => if p c = true then g c else 0) n
  | 0 => rfl
  | n + 1 => by
    rw [List.range_succ, List.filter_append, List.map_append, List.sum_append, sum_filter p g n]
    simp only [sumF]
    congr 1
    by_cases h : p n = true <;> simp [h]
theorem law_node (h : MayT l) (f : Nat → Nat) {i : Nat} (hi : i < l.length) : subT l f i = f i + ((kidsT l i).map (subT l f)).sum := by
  rw [sub_kids h f hi]
  congr 1
  unfold kidsT
  rw [sum_filter]
  refine sumF_congr _ fun c _ => ?_
  simp
end
end Go.Proofs.Ytonfmddjlhgglaa
