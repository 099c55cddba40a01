/-
  Ancestors by leaps: what a row of leaps is made of, the way up by bits, the climb, the nearest that is so; no word of the program.
-/
import Derived.Test.YtnmljjmaejmlfaaSkipZ
namespace Go.Proofs.Ytnmljjmaejmlfaa

/-- The first so many of four leaps, the others none. -/
def partQ (q : Quad) : Nat → Quad
  | 0 => ⟨-1, -1, -1, -1⟩
  | 1 => ⟨q.a, -1, -1, -1⟩
  | 2 => ⟨q.a, q.b, -1, -1⟩
  | 3 => ⟨q.a, q.b, q.c, -1⟩
  | _ => q
/-- An ancestor among the nodes that are there, and who is so. -/
structure NearSpec (l : List Nd) (S : Nat → Bool) (i : Nat) (R : Int) : Prop where
  spec : (R = -1 ∧ ∀ k, aboveT l k i = true → S k = false) ∨ ∃ n : Nat, R = n ∧ n < l.length ∧ aboveT l n i = true ∧ S n = true ∧ ∀ k, aboveT l k i = true → S k = true → aboveT l k n = true
section
variable {l : List Nd}
theorem upT_lt (h : MayT l) {n i x : Nat} (hi : i < l.length) (hn : 0 < n) (e : upT l n i = (x : Int)) : x < i := by
  rcases up_spec h n i hi with ⟨h1, y, e2, hy, ha, hd⟩ | ⟨_, e2⟩
  · obtain rfl : x = y := by omega
    have := above_le h x i hi ha
    by_cases h0 : x = i
    · subst h0; omega
    · omega
  · omega
theorem leap_next (h : MayT l) {j : Nat} (hj : j < l.length) (k : Nat) : (leapT l j k = -1 ∧ ∀ m, k ≤ m → leapT l j m = -1) ∨ ∃ x : Nat, leapT l j k = x ∧ x < j ∧ leapT l j (k + 1) = leapT l x k := by
  rcases leap_two h hj k with ⟨e, _⟩ | ⟨x, e, hx, e2⟩
  · refine .inl ⟨e, fun m hm => ?_⟩
    unfold leapT at *
    have : 2 ^ k ≤ 2 ^ m := Nat.pow_le_pow_right (by omega) hm
    obtain ⟨d, hd⟩ : ∃ d, 2 ^ m = 2 ^ k + d := ⟨2 ^ m - 2 ^ k, by omega⟩
    rw [hd]
    exact up_none h hj e
  · exact .inr ⟨x, e, upT_lt h hj (Nat.two_pow_pos k) e, e2⟩
theorem part_all (h : MayT l) {j : Nat} (hj : j < l.length) {k : Nat} (hk : k ≤ 4) (e : leapT l j k = -1) : partQ (quadT l j) k = quadT l j := by
  have hn : ∀ m, k ≤ m → leapT l j m = -1 := by
    rcases leap_next h hj k with ⟨_, h1⟩ | ⟨x, e2, _⟩
    · exact h1
    · omega
  have q (m : Nat) (hm : k ≤ m) := hn m hm
  match k, hk with
  | 0, _ => show (⟨-1, -1, -1, -1⟩ : Quad) = ⟨leapT l j 0, leapT l j 1, leapT l j 2, leapT l j 3⟩; rw [q 0 (by omega), q 1 (by omega), q 2 (by omega), q 3 (by omega)]
  | 1, _ => show (⟨leapT l j 0, -1, -1, -1⟩ : Quad) = ⟨leapT l j 0, leapT l j 1, leapT l j 2, leapT l j 3⟩; rw [q 1 (by omega), q 2 (by omega), q 3 (by omega)]
  | 2, _ => show (⟨leapT l j 0, leapT l j 1, -1, -1⟩ : Quad) = ⟨leapT l j 0, leapT l j 1, leapT l j 2, leapT l j 3⟩; rw [q 2 (by omega), q 3 (by omega)]
  | 3, _ => show (⟨leapT l j 0, leapT l j 1, leapT l j 2, -1⟩ : Quad) = ⟨leapT l j 0, leapT l j 1, leapT l j 2, leapT l j 3⟩; rw [q 3 (by omega)]
  | 4, _ => rfl

/-! ### Up by bits -/
theorem up_bits (h : MayT l) {i : Nat} (hi : i < l.length) (n k : Nat) :
    (upT l (n % 2 ^ k) i = -1 ∧ upT l (n % 2 ^ (k + 1)) i = -1) ∨
    ∃ x : Nat, upT l (n % 2 ^ k) i = x ∧ x < l.length ∧ ((n.testBit k = false ∧ upT l (n % 2 ^ (k + 1)) i = x) ∨ (n.testBit k = true ∧ upT l (n % 2 ^ (k + 1)) i = leapT l x k)) := by
  have e : n % 2 ^ (k + 1) = n % 2 ^ k + 2 ^ k * (n.testBit k).toNat := by
    rw [Nat.mod_pow_succ, Nat.testBit_eq_decide_div_mod_eq]
    have := Nat.mod_lt (n / 2 ^ k) (show 0 < 2 by omega)
    by_cases h1 : n / 2 ^ k % 2 = 1
    · rw [decide_eq_true h1, h1]; rfl
    · rw [decide_eq_false h1, show n / 2 ^ k % 2 = 0 by omega]; rfl
  rw [e]
  rcases up_spec h (n % 2 ^ k) i hi with ⟨_, x, e1, hx, _⟩ | ⟨_, e1⟩
  · refine .inr ⟨x, e1, hx, ?_⟩
    cases hb : n.testBit k
    · exact .inl ⟨rfl, by simpa using e1⟩
    · refine .inr ⟨rfl, ?_⟩
      rw [show (true : Bool).toNat = 1 from rfl, Nat.mul_one]
      exact up_add h _ _ _ _ hi e1
  · exact .inl ⟨e1, up_none h hi e1⟩

/-! ### the climb -/
/-- One step of it: from so far up, by a leap, whether it goes on. -/
theorem climb_step (h : MayT l) {i D far x : Nat} (hi : i < l.length) (hD : D ≤ deepT l i) (e : upT l far i = (x : Int)) (b : Nat) :
    (leapT l x b = -1 ∧ D < far + 2 ^ b) ∨ ∃ y : Nat, leapT l x b = y ∧ y < l.length ∧ upT l (far + 2 ^ b) i = y ∧ 1 ≤ far + 2 ^ b ∧ far + 2 ^ b ≤ deepT l i := by
  have e2 : upT l (far + 2 ^ b) i = leapT l x b := up_add h _ _ _ _ hi e
  have hp : 1 ≤ 2 ^ b := Nat.two_pow_pos b
  rcases up_spec h (far + 2 ^ b) i hi with ⟨h1, y, e1, hy, _⟩ | ⟨h1, e1⟩
  · exact .inr ⟨y, by rw [← e2]; exact e1, hy, e1, by omega, h1⟩
  · exact .inl ⟨by rw [← e2]; exact e1, by omega⟩
theorem deep_small (h : MayT l) {i : Nat} (hi : i < l.length) : deepT l i < 16 := by
  have := deep_le h i hi
  have := h.le
  omega
/-- The climb that all pass. -/
theorem up_deep (h : MayT l) {i : Nat} (hi : i < l.length) : upT l (deepT l i) i = 0 := (law_up (a := 0) (b := 0) h hi).1

/-! ### the nearest -/
theorem near_unique (h : MayT l) {S : Nat → Bool} {i : Nat} {R R' : Int} (h1 : NearSpec l S i R) (h2 : NearSpec l S i R') : R = R' := by
  rcases h1.spec with ⟨e1, n1⟩ | ⟨n, e1, hn, ha, hs, hall⟩
  · rcases h2.spec with ⟨e2, _⟩ | ⟨n', e2, _, ha', hs', _⟩
    · rw [e1, e2]
    · have := n1 n' ha'; rw [hs'] at this; cases this
  · rcases h2.spec with ⟨e2, n2⟩ | ⟨n', e2, hn', ha', hs', hall'⟩
    · have := n2 n ha; rw [hs] at this; cases this
    · have := above_antisymm h hn hn' (hall' n ha hs) (hall n' ha' hs')
      rw [e1, e2, this]
theorem near_here (h : MayT l) {S : Nat → Bool} {i : Nat} (hi : i < l.length) (hs : S i = true) : NearSpec l S i i := ⟨.inr ⟨i, rfl, hi, above_refl h hi, hs, fun _ hk _ => hk⟩⟩
theorem near_up (h : MayT l) {S : Nat → Bool} {i : Nat} {R : Int} (h0 : 0 < i) (hi : i < l.length) (hs : S i = false) (hn : NearSpec l S (up l i) R) : NearSpec l S i R := by
  rcases hn.spec with ⟨e, n1⟩ | ⟨n, e, hn, ha, hsn, hall⟩
  · refine ⟨.inl ⟨e, fun k hk => ?_⟩⟩
    rcases (above_iff h k h0 hi).1 hk with rfl | hk
    · exact hs
    · exact n1 k hk
  · refine ⟨.inr ⟨n, e, hn, (above_iff h n h0 hi).2 (.inr ha), hsn, fun k hk hks => ?_⟩⟩
    rcases (above_iff h k h0 hi).1 hk with rfl | hk
    · rw [hs] at hks; cases hks
    · exact hall k hk hks
/-- How far those go that are not so. -/
theorem near_climb (h : MayT l) {S : Nat → Bool} (hm : ∀ m k, k < l.length → aboveT l m k = true → S k = true → S m = true) : ∀ i, i < l.length → S i = false →
    ∃ D, D ≤ deepT l i ∧ (∀ m, 1 ≤ m → m ≤ deepT l i → ∀ y : Nat, upT l m i = y → S y = decide (D < m)) ∧ ∃ x : Nat, upT l D i = x ∧ x < l.length ∧ NearSpec l S i (nd l x).parent := by
  intro i
  induction i using Nat.strongRecOn with
  | _ i ih =>
    intro hi hs
    by_cases h0 : i = 0
    · subst h0
      refine ⟨0, Nat.zero_le _, fun m h1 h2 => by rw [deep_zero] at h2; omega, 0, rfl, hi, ⟨.inl ⟨h.first, fun k hk => ?_⟩⟩⟩
      rw [above_zero, decide_eq_true_iff] at hk
      subst hk; exact hs
    · obtain ⟨ep, hu, _⟩ := h.par (Nat.pos_of_ne_zero h0) hi
      have hul : up l i < l.length := by omega
      have hd := deep_up h (Nat.pos_of_ne_zero h0) hi
      have e1 : ∀ m, upT l (m + 1) i = upT l m (up l i) := fun m => by show (if i = 0 then (-1 : Int) else upT l m (up l i)) = _; rw [if_neg h0]
      cases hp : S (up l i)
      · obtain ⟨D, hD, hall, x, hx, hxl, hnx⟩ := ih _ hu hul hp
        refine ⟨D + 1, by omega, fun m h1 h2 y hy => ?_, x, by rw [e1]; exact hx, hxl, near_up h (Nat.pos_of_ne_zero h0) hi hs hnx⟩
        obtain ⟨m', rfl⟩ : ∃ m', m = m' + 1 := ⟨m - 1, by omega⟩
        rw [e1] at hy
        by_cases hm0 : m' = 0
        · subst hm0
          have hy : ((up l i : Nat) : Int) = y := hy
          obtain rfl : up l i = y := by omega
          rw [hp, decide_eq_false (by omega)]
        · rw [hall m' (by omega) (by omega) y hy]
          congr 1
          rw [eq_iff_iff]; omega
      · refine ⟨0, Nat.zero_le _, fun m h1 h2 y hy => ?_, i, rfl, hi, ?_⟩
        · obtain ⟨m', rfl⟩ : ∃ m', m = m' + 1 := ⟨m - 1, by omega⟩
          rw [e1] at hy
          rcases up_spec h m' (up l i) hul with ⟨_, z, ez, _, ha, _⟩ | ⟨_, ez⟩
          · obtain rfl : y = z := by omega
            rw [hm y (up l i) hul ha hp, decide_eq_true (Nat.lt_of_lt_of_le Nat.zero_lt_one h1)]
          · omega
        · rw [ep]
          exact near_up h (Nat.pos_of_ne_zero h0) hi hs (near_here h hul hp)
theorem near_at (h : MayT l) {i : Nat} (hi : i < l.length) (s : Nat) : NearSpec l (fun k => decide (sl l k ≤ s)) i (atT l i s) := by
  rcases at_spec h s i hi with ⟨e, hn⟩ | ⟨n, e, hn, ha, hs, hall⟩
  · exact ⟨.inl ⟨e, fun k hk => decide_eq_false (by have := hn k hk; omega)⟩⟩
  · exact ⟨.inr ⟨n, e, hn, ha, decide_eq_true hs, fun k hk hks => hall k hk (by simpa using hks)⟩⟩
theorem near_at_mono (h : MayT l) (s : Nat) : ∀ m k, k < l.length → aboveT l m k = true → decide (sl l k ≤ s) = true → decide (sl l m ≤ s) = true := fun m k hk ha hs => by
  have := above_slot h k hk ha
  simp only [decide_eq_true_iff] at hs ⊢
  omega
theorem near_meet (h : MayT l) {a : Nat} (b : Int) (ha : a < l.length) : NearSpec l (fun k => aboveZ l (k : Int) b) a (meetZ l a b) := by
  by_cases hb : isT l b = true
  · obtain ⟨_, hb0, hb1⟩ := isT_iff.1 hb
    obtain ⟨b', rfl⟩ : ∃ b' : Nat, b = b' := ⟨b.toNat, by omega⟩
    have hb' : b' < l.length := by omega
    rw [meetZ_nat h ha hb']
    obtain ⟨m, e, hm, h1, h2, h3⟩ := meet_spec h ha hb'
    refine ⟨.inr ⟨m, e, hm, h1, by show aboveZ l (m : Int) (b' : Int) = true; rw [aboveZ_nat h hm hb']; exact h2, fun k hk hks => ?_⟩⟩
    have hkl : k < l.length := by have := above_le h k a ha hk; omega
    have hks : aboveZ l (k : Int) (b' : Int) = true := hks
    rw [aboveZ_nat h hkl hb'] at hks
    exact h3 k hk hks
  · refine ⟨.inl ⟨?_, fun k _ => ?_⟩⟩
    · unfold meetZ
      rw [if_neg (fun e => hb e.2)]
    · show aboveZ l (k : Int) b = false
      unfold aboveZ
      rw [show isT l b = false by simpa using hb, Bool.and_false, Bool.false_and]
theorem near_meet_mono (h : MayT l) (b : Int) : ∀ m k, k < l.length → aboveT l m k = true → aboveZ l (k : Int) b = true → aboveZ l (m : Int) b = true := fun m k hk ha hs => by
  unfold aboveZ at hs
  rw [Bool.and_eq_true, Bool.and_eq_true] at hs
  obtain ⟨⟨_, hb⟩, hs⟩ := hs
  obtain ⟨_, hb0, hb1⟩ := isT_iff.1 hb
  obtain ⟨b', rfl⟩ : ∃ b' : Nat, b = b' := ⟨b.toNat, by omega⟩
  have hb' : b' < l.length := by omega
  have hml : m < l.length := by have := above_le h m k hk ha; omega
  rw [aboveZ_nat h hml hb']
  refine above_trans h ha b' hb' ?_
  simpa using hs
end
end Go.Proofs.Ytnmljjmaejmlfaa
