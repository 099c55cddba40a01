/-
  Trees, plainly: the best child, the way down, the head; what the laws of layer 9 want of them. 'lt': which root is less.
-/
import Derived.Test.YtjmpgphoiehdmaaGT
namespace Go.Proofs.Ytjmpgphoiehdmaa

section
variable (l : List Nd) (lt : Rt → Rt → Bool) (w : Nat → Nat) (leads : Nat → Bool)
/-- Does i have this child, and does it lead on? -/
def candB (i k : Nat) : Bool := decide ((nd l k).parent = (i : Int)) && leads k
def betterB (k b : Nat) : Bool := decide (w b < w k) || (decide (w k = w b) && lt (nd l b).root (nd l k).root)
def bestF (i : Nat) : Nat → Option Nat
  | 0 => none
  | n + 1 => match bestF i n with
    | none => if candB l leads i n = true then some n else none
    | some b => if (candB l leads i n && betterB l lt w n b) = true then some n else some b
def bestT (i : Nat) : Option Nat := bestF l lt w leads i l.length
def wayF : Nat → Nat → List Nat
  | 0, i => [i]
  | f + 1, i => i :: (match bestT l lt w leads i with | none => [] | some k => wayF f k)
def wayT (i : Nat) : List Nat := wayF l lt w leads (l.length - i) i
def headT (i : Nat) : Nat := (wayT l lt w leads i).getLastD i
end

/-- A strict order of the roots. -/
structure Strict (lt : Rt → Rt → Bool) : Prop where
  irr : ∀ a, lt a a = false
  trans : ∀ a b c, lt a b = true → lt b c = true → lt a c = true
  total : ∀ a b, a ≠ b → lt a b = true ∨ lt b a = true
section
variable {l : List Nd} {lt : Rt → Rt → Bool} {w : Nat → Nat} {leads : Nat → Bool}
theorem better_iff {k b : Nat} : betterB l lt w k b = true ↔ w b < w k ∨ (w k = w b ∧ lt (nd l b).root (nd l k).root = true) := by
  unfold betterB
  rw [Bool.or_eq_true, Bool.and_eq_true, decide_eq_true_iff, decide_eq_true_iff]
/-- What is not better than one is not better than what is better than that. -/
theorem better_chain (hs : Strict lt) {k b n : Nat} (h1 : betterB l lt w k b = false) (h2 : betterB l lt w n b = true) : betterB l lt w k n = false := by
  rw [← Bool.not_eq_true] at h1 ⊢
  intro h3
  apply h1
  rw [better_iff] at *
  rcases h2 with h2 | ⟨h2, h2'⟩ <;> rcases h3 with h3 | ⟨h3, h3'⟩
  · exact .inl (by omega)
  · exact .inl (by omega)
  · exact .inl (by omega)
  · exact .inr ⟨by omega, hs.trans _ _ _ h2' h3'⟩
theorem best_spec (hs : Strict lt) (i : Nat) : ∀ n, (bestF l lt w leads i n = none ∧ ∀ k, k < n → candB l leads i k = false) ∨ ∃ b, bestF l lt w leads i n = some b ∧ b < n ∧ candB l leads i b = true ∧ ∀ k, k < n → candB l leads i k = true → betterB l lt w k b = false
  | 0 => .inl ⟨rfl, fun k hk => by omega⟩
  | n + 1 => by
    have e : bestF l lt w leads i (n + 1) = match bestF l lt w leads i n with
      | none => if candB l leads i n = true then some n else none
      | some b => if (candB l leads i n && betterB l lt w n b) = true then some n else some b := rfl
    have self : ∀ b, betterB l lt w b b = false := fun b => by
      rw [← Bool.not_eq_true, better_iff]
      rintro (h | ⟨_, h⟩)
      · omega
      · rw [hs.irr] at h; cases h
    rcases best_spec hs i n with ⟨e1, hn⟩ | ⟨b, e1, hb, hc, hall⟩
    · rw [e, e1]
      by_cases hc : candB l leads i n = true
      · refine .inr ⟨n, by simp [hc], by omega, hc, fun k hk hck => ?_⟩
        by_cases hkn : k < n
        · rw [hn k hkn] at hck; cases hck
        · obtain rfl : k = n := by omega
          exact self k
      · refine .inl ⟨by simp [hc], fun k hk => ?_⟩
        by_cases hkn : k < n
        · exact hn k hkn
        · obtain rfl : k = n := by omega
          simpa using hc
    · rw [e, e1]
      by_cases hnb : (candB l leads i n && betterB l lt w n b) = true
      · have h2 := hnb
        rw [Bool.and_eq_true] at h2
        refine .inr ⟨n, by simp [h2.1, h2.2], by omega, h2.1, fun k hk hck => ?_⟩
        by_cases hkn : k < n
        · exact better_chain hs (hall k hkn hck) h2.2
        · obtain rfl : k = n := by omega
          exact self k
      · refine .inr ⟨b, by simp only []; rw [if_neg hnb], by omega, hc, fun k hk hck => ?_⟩
        by_cases hkn : k < n
        · exact hall k hkn hck
        · obtain rfl : k = n := by omega
          rw [Bool.and_eq_true] at hnb
          rw [← Bool.not_eq_true]
          exact fun h => hnb ⟨hck, h⟩
/-- Just one is best. -/
theorem best_is (hs : Strict lt) (h : MayT l) {i b : Nat} (hb : b < l.length) (hc : candB l leads i b = true) (hall : ∀ k, k < l.length → candB l leads i k = true → betterB l lt w k b = false) : bestT l lt w leads i = some b := by
  rcases best_spec (w := w) (leads := leads) hs i l.length with ⟨_, hn⟩ | ⟨c, e, hcl, hcc, hca⟩
  · rw [hn b hb] at hc; cases hc
  · unfold bestT
    rw [e]
    have h1 := hall c hcl hcc
    have h2 := hca b hb hc
    rw [← Bool.not_eq_true, better_iff] at h1 h2
    have hw : w c = w b := by omega
    by_cases hr : (nd l c).root = (nd l b).root
    · rw [h.roots hcl hb hr]
    · rcases hs.total _ _ hr with h3 | h3
      · exact absurd (.inr ⟨hw.symm, h3⟩) h2
      · exact absurd (.inr ⟨hw, h3⟩) h1
theorem best_some (hs : Strict lt) {i k : Nat} (e : bestT l lt w leads i = some k) : k < l.length ∧ (nd l k).parent = (i : Int) ∧ leads k = true ∧ ∀ j, j < l.length → (nd l j).parent = (i : Int) → leads j = true → betterB l lt w j k = false := by
  rcases best_spec (w := w) (leads := leads) hs i l.length with ⟨e1, _⟩ | ⟨b, e1, hb, hc, hall⟩
  · unfold bestT at e; rw [e1] at e; cases e
  · unfold bestT at e
    rw [e1] at e
    obtain rfl := Option.some.inj e
    unfold candB at hc
    rw [Bool.and_eq_true, decide_eq_true_iff] at hc
    exact ⟨hb, hc.1, hc.2, fun j hj hp hl => hall j hj (by unfold candB; rw [hl, Bool.and_true, decide_eq_true_iff]; exact hp)⟩
theorem best_none (hs : Strict lt) {i : Nat} (e : bestT l lt w leads i = none) : ∀ k, k < l.length → (nd l k).parent = (i : Int) → leads k = false := by
  rcases best_spec (w := w) (leads := leads) hs i l.length with ⟨_, hn⟩ | ⟨b, e1, _⟩
  · intro k hk hp
    have := hn k hk
    unfold candB at this
    rw [decide_eq_true hp, Bool.true_and] at this
    exact this
  · unfold bestT at e; rw [e1] at e; cases e
theorem best_off (hs : Strict lt) {i : Nat} (hn : ∀ k, k < l.length → (nd l k).parent = (i : Int) → leads k = false) : bestT l lt w leads i = none := by
  cases e : bestT l lt w leads i with
  | none => rfl
  | some k =>
    obtain ⟨h1, h2, h3, _⟩ := best_some hs e
    rw [hn k h1 h2] at h3; cases h3
theorem best_lt (hs : Strict lt) (h : MayT l) {i k : Nat} (e : bestT l lt w leads i = some k) : i < k ∧ k < l.length ∧ aboveT l i k = true := by
  obtain ⟨h1, h2, _⟩ := best_some hs e
  have hm := mem_kids.2 ⟨h1, h2⟩
  obtain ⟨h3, _, h5⟩ := kids_pos h hm
  refine ⟨h3, h1, (above_iff h i (by omega) h1).2 (.inr ?_)⟩
  rw [h5]; exact above_refl h (by omega)

/-! ### the way down -/
theorem way_fuel (hs : Strict lt) (h : MayT l) : ∀ (d i : Nat), l.length - i = d → i < l.length → ∀ f, l.length - i ≤ f → wayF l lt w leads f i = wayF l lt w leads (l.length - i) i := by
  intro d
  induction d using Nat.strongRecOn with
  | _ d ih =>
    intro i hd hi f hf
    obtain ⟨f', rfl⟩ : ∃ f', f = f' + 1 := ⟨f - 1, by omega⟩
    obtain ⟨g, hg⟩ : ∃ g, l.length - i = g + 1 := ⟨l.length - i - 1, by omega⟩
    rw [hg]
    simp only [wayF]
    cases e : bestT l lt w leads i with
    | none => rfl
    | some k =>
      obtain ⟨h1, h2, _⟩ := best_lt hs h e
      simp only []
      rw [ih (l.length - k) (by omega) k rfl h2 f' (by omega), ih (l.length - k) (by omega) k rfl h2 g (by omega)]
theorem way_none {i : Nat} (e : bestT l lt w leads i = none) : wayT l lt w leads i = [i] := by
  unfold wayT
  cases l.length - i with
  | zero => rfl
  | succ f => simp only [wayF, e]
theorem way_some (hs : Strict lt) (h : MayT l) {i k : Nat} (e : bestT l lt w leads i = some k) : wayT l lt w leads i = i :: wayT l lt w leads k := by
  obtain ⟨h1, h2, _⟩ := best_lt hs h e
  unfold wayT
  obtain ⟨g, hg⟩ : ∃ g, l.length - i = g + 1 := ⟨l.length - i - 1, by omega⟩
  rw [hg]
  simp only [wayF, e]
  rw [way_fuel hs h _ k rfl h2 g (by omega)]
theorem way_head (i : Nat) : ∃ r, wayT l lt w leads i = i :: r := by
  unfold wayT
  cases l.length - i with
  | zero => exact ⟨[], rfl⟩
  | succ f => exact ⟨_, rfl⟩
theorem head_none {i : Nat} (e : bestT l lt w leads i = none) : headT l lt w leads i = i := by unfold headT; rw [way_none e]; rfl
theorem head_some (hs : Strict lt) (h : MayT l) {i k : Nat} (e : bestT l lt w leads i = some k) : headT l lt w leads i = headT l lt w leads k := by
  unfold headT
  rw [way_some hs h e]
  obtain ⟨r, hr⟩ := way_head (l := l) (lt := lt) (w := w) (leads := leads) k
  rw [hr]
  rfl
/-- P9.2, P9.3: the head, and each on the way. -/
theorem law_head (hs : Strict lt) (h : MayT l) : ∀ (d i : Nat), l.length - i = d → i < l.length → headT l lt w leads i < l.length ∧ aboveT l i (headT l lt w leads i) = true ∧ bestT l lt w leads (headT l lt w leads i) = none ∧ (headT l lt w leads i ≠ i → leads (headT l lt w leads i) = true) := by
  intro d
  induction d using Nat.strongRecOn with
  | _ d ih =>
    intro i hd hi
    cases e : bestT l lt w leads i with
    | none => rw [head_none e]; exact ⟨hi, above_refl h hi, e, fun hne => absurd rfl hne⟩
    | some k =>
      obtain ⟨h1, h2, h3⟩ := best_lt hs h e
      rw [head_some hs h e]
      obtain ⟨a, b, c, f⟩ := ih (l.length - k) (by omega) k rfl h2
      refine ⟨a, above_trans h h3 _ a b, c, fun _ => ?_⟩
      by_cases hk : headT l lt w leads k = k
      · rw [hk]; exact (best_some hs e).2.2.1
      · exact f hk
/-- Each on the way: where the one ahead goes, and to the same head. -/
theorem way_steps (hs : Strict lt) (h : MayT l) : ∀ (d i : Nat), l.length - i = d → i < l.length → (∀ j, j < (wayT l lt w leads i).length → (wayT l lt w leads i).getD j 0 < l.length ∧ headT l lt w leads ((wayT l lt w leads i).getD j 0) = headT l lt w leads i ∧ i ≤ (wayT l lt w leads i).getD j 0) ∧ (∀ j, j + 1 < (wayT l lt w leads i).length → bestT l lt w leads ((wayT l lt w leads i).getD j 0) = some ((wayT l lt w leads i).getD (j + 1) 0)) ∧ (wayT l lt w leads i).length ≤ l.length - i := by
  intro d
  induction d using Nat.strongRecOn with
  | _ d ih =>
    intro i hd hi
    cases e : bestT l lt w leads i with
    | none =>
      rw [way_none e]
      refine ⟨fun j hj => ?_, fun j hj => ?_, ?_⟩
      · obtain rfl : j = 0 := by simpa using hj
        exact ⟨hi, rfl, Nat.le_refl _⟩
      · simp at hj
      · simp; omega
    | some k =>
      obtain ⟨h1, h2, _⟩ := best_lt hs h e
      obtain ⟨a, b, c⟩ := ih (l.length - k) (by omega) k rfl h2
      rw [way_some hs h e]
      refine ⟨fun j hj => ?_, fun j hj => ?_, ?_⟩
      · cases j with
        | zero => exact ⟨hi, rfl, Nat.le_refl _⟩
        | succ j =>
          obtain ⟨x, y, z⟩ := a j (by simpa using hj)
          rw [List.getD_cons_succ]
          exact ⟨x, by rw [y, head_some hs h e], by omega⟩
      · cases j with
        | zero =>
          obtain ⟨r, hr⟩ := way_head (l := l) (lt := lt) (w := w) (leads := leads) k
          rw [List.getD_cons_succ, hr]
          exact e
        | succ j =>
          rw [List.getD_cons_succ, List.getD_cons_succ]
          exact b j (by simpa using hj)
      · rw [List.length_cons]; omega
theorem law_off (hs : Strict lt) (h : MayT l) {off : Nat → Bool} {i : Nat} (hi : i < l.length) (ho : ∀ k, off k = true → leads k = true) (hh : off (headT l lt w leads i) = false) :
    (headT l lt w off i ≠ headT l lt w leads i ↔ headT l lt w leads i ≠ i) ∧ headT l lt w off (headT l lt w leads i) = headT l lt w leads i := by
  obtain ⟨_, _, h3, _⟩ := law_head (w := w) (leads := leads) hs h _ i rfl hi
  have hoff : bestT l lt w off (headT l lt w leads i) = none := best_off hs fun k hk hp => by
    have := best_none hs h3 k hk hp
    rw [← Bool.not_eq_true]
    intro e
    rw [ho k e] at this; cases this
  refine ⟨?_, head_none hoff⟩
  constructor
  · intro hne e
    rw [e] at hoff hne
    exact hne (head_none hoff)
  · intro hne e
    obtain ⟨_, _, _, h4⟩ := law_head (w := w) (leads := off) hs h _ i rfl hi
    have := h4 (by rw [e]; exact hne)
    rw [e, hh] at this
    cases this
/-- All of the way down is behind where it begins. -/
theorem way_above (hs : Strict lt) (h : MayT l) : ∀ (d i : Nat), l.length - i = d → i < l.length → ∀ j, j ∈ wayT l lt w leads i → j < l.length ∧ aboveT l i j = true := by
  intro d
  induction d using Nat.strongRecOn with
  | _ d ih =>
    intro i hd hi j hj
    cases e : bestT l lt w leads i with
    | none =>
      rw [way_none e] at hj
      obtain rfl : j = i := by simpa using hj
      exact ⟨hi, above_refl h hi⟩
    | some k =>
      obtain ⟨h1, h2, h3⟩ := best_lt hs h e
      rw [way_some hs h e, List.mem_cons] at hj
      rcases hj with rfl | hj
      · exact ⟨hi, above_refl h hi⟩
      · obtain ⟨a, b⟩ := ih (l.length - k) (by omega) k rfl h2 j hj
        exact ⟨a, above_trans h h3 j a b⟩
/-- All on the way heavier by as much: the way stays. -/
theorem way_more (hs : Strict lt) (h : MayT l) {v : Nat → Nat} {more : Nat} : ∀ (d i : Nat), l.length - i = d → i < l.length → (∀ j, j ∈ wayT l lt w leads i → v j = w j + more) → (∀ j, j < l.length → aboveT l i j = true → j ∉ wayT l lt w leads i → v j = w j) → wayT l lt v leads i = wayT l lt w leads i := by
  intro d
  induction d using Nat.strongRecOn with
  | _ d ih =>
    intro i hd hi hon hoff
    cases e : bestT l lt w leads i with
    | none => rw [way_none e, way_none (best_off hs (best_none hs e))]
    | some k =>
      obtain ⟨h1, h2, h3⟩ := best_lt hs h e
      obtain ⟨_, hp, hl, hall⟩ := best_some hs e
      have hline := way_some hs h e
      rw [hline] at hon hoff
      have hkv : v k = w k + more := hon k (by
        obtain ⟨r, hr⟩ := way_head (l := l) (lt := lt) (w := w) (leads := leads) k
        rw [hr]; simp)
      have hother : ∀ j, j < l.length → (nd l j).parent = (i : Int) → j ≠ k → v j = w j := fun j hj hjp hjk => by
        have hm := mem_kids.2 ⟨hj, hjp⟩
        obtain ⟨hij, _, hup⟩ := kids_pos h hm
        have hij' : aboveT l i j = true := (above_iff h i (by omega) hj).2 (.inr (by rw [hup]; exact above_refl h hi))
        refine hoff j hj hij' fun hmem => ?_
        rw [List.mem_cons] at hmem
        rcases hmem with hmem | hmem
        · omega
        · have ha := (way_above hs h _ k rfl h2 j hmem).2
          rcases (above_iff h k (by omega) hj).1 ha with h5 | h5
          · exact hjk h5.symm
          · rw [hup] at h5
            have := above_le h k i hi h5
            omega
      have ev : bestT l lt v leads i = some k := best_is hs h h2 (by unfold candB; rw [hl, Bool.and_true, decide_eq_true_iff]; exact hp) fun j hj hcj => by
        unfold candB at hcj
        rw [Bool.and_eq_true, decide_eq_true_iff] at hcj
        have hb := hall j hj hcj.1 hcj.2
        rw [← Bool.not_eq_true, better_iff] at hb ⊢
        by_cases hjk : j = k
        · subst hjk
          rintro (h5 | ⟨_, h5⟩)
          · omega
          · rw [hs.irr] at h5; cases h5
        · rw [hother j hj hcj.1 hjk, hkv]
          rintro (h5 | ⟨h5, h6⟩)
          · exact hb (.inl (by omega))
          · by_cases hm0 : more = 0
            · exact hb (.inr ⟨by omega, h6⟩)
            · exact hb (.inl (by omega))
      rw [hline, way_some hs h ev]
      congr 1
      refine ih (l.length - k) (by omega) k rfl h2 (fun j hj => hon j (List.mem_cons_of_mem _ hj)) fun j hj ha hn => hoff j hj (above_trans h h3 j hj ha) fun hm => ?_
      rw [List.mem_cons] at hm
      rcases hm with rfl | hm
      · have := above_le h k j hj ha; omega
      · exact hn hm
end
end Go.Proofs.Ytjmpgphoiehdmaa
