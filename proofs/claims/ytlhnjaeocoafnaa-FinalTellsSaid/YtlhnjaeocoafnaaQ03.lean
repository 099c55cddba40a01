/-
  Trees, plainly: who may be, who is above whom, ancestors at slots, children, what is put, what is cut; no word of the program.
  Trees, plainly: what is found, what is put, children.
-/
import Derived.Test.YtlhnjaeocoafnaaQ02
namespace Go.Proofs.Ytlhnjaeocoafnaa
set_option maxRecDepth 100000

structure Nd where
  root : Rt
  parent : Int
  slot : UInt64
  just : UInt64
theorem Nd.ext {x y : Nd} (h0 : x.root = y.root) (h1 : x.parent = y.parent) (h2 : x.slot = y.slot) (h3 : x.just = y.just) : x = y := by cases x; cases y; simp_all
instance : DecidableEq Nd := fun x y => decidable_of_iff (x.root = y.root ∧ x.parent = y.parent ∧ x.slot = y.slot ∧ x.just = y.just) ⟨fun h => Nd.ext h.1 h.2.1 h.2.2.1 h.2.2.2, fun h => by subst h; exact ⟨rfl, rfl, rfl, rfl⟩⟩

def nd (l : List Nd) (i : Nat) : Nd := l.getD i ⟨zr, 0, 0, 0⟩
theorem nd_in (l : List Nd) {i : Nat} (h : i < l.length) : nd l i = l[i] := by simp [nd, h]
def sl (l : List Nd) (i : Nat) : Nat := (nd l i).slot.toNat
def up (l : List Nd) (i : Nat) : Nat := (nd l i).parent.toNat
/-- A node at its place. -/
def NodeOk (l : List Nd) (i : Nat) : Prop :=
  sl l i ≤ 1099511627776 ∧ (i = 0 → (nd l i).parent = -1) ∧ (0 < i → 0 ≤ (nd l i).parent ∧ (nd l i).parent < i ∧ sl l (up l i) < sl l i) ∧ ∀ k, k < i → (nd l k).root ≠ (nd l i).root
instance (l : List Nd) (i : Nat) : Decidable (NodeOk l i) := by unfold NodeOk; exact inferInstance
def MayT (l : List Nd) : Prop := 1 ≤ l.length ∧ l.length ≤ 12 ∧ ∀ i, i < l.length → NodeOk l i
instance (l : List Nd) : Decidable (MayT l) := by unfold MayT; exact inferInstance

section
variable {l : List Nd}
theorem MayT.pos (h : MayT l) : 0 < l.length := h.1
theorem MayT.le (h : MayT l) : l.length ≤ 12 := h.2.1
theorem MayT.first (h : MayT l) : (nd l 0).parent = -1 := (h.2.2 0 h.pos).2.1 rfl
theorem MayT.par (h : MayT l) {k : Nat} (h0 : 0 < k) (hk : k < l.length) : (nd l k).parent = (up l k : Int) ∧ up l k < k ∧ sl l (up l k) < sl l k := by
  obtain ⟨a, b, c⟩ := (h.2.2 k hk).2.2.1 h0
  unfold up at *
  exact ⟨by omega, by omega, c⟩
theorem MayT.slot (h : MayT l) {k : Nat} (hk : k < l.length) : sl l k ≤ 1099511627776 := (h.2.2 k hk).1
theorem MayT.roots (h : MayT l) {i k : Nat} (hi : i < l.length) (hk : k < l.length) (e : (nd l i).root = (nd l k).root) : i = k := by
  rcases Nat.lt_trichotomy i k with h1 | h1 | h1
  · exact absurd e ((h.2.2 k hk).2.2.2 i h1)
  · exact h1
  · exact absurd e.symm ((h.2.2 i hi).2.2.2 k h1)

/-! ### above -/
def abv (l : List Nd) : Nat → Nat → Nat → Bool
  | 0, i, k => decide (k = i)
  | f + 1, i, k => if i < k then abv l f i (up l k) else decide (k = i)
def aboveT (l : List Nd) (i k : Nat) : Bool := abv l k i k
theorem abv_fuel (h : MayT l) (i : Nat) : ∀ (k : Nat), k < l.length → ∀ f, k ≤ f → abv l f i k = abv l k i k := by
  intro k
  induction k using Nat.strongRecOn with
  | _ k ih =>
    intro hk f hf
    by_cases h0 : k = 0
    · subst h0
      cases f with
      | zero => rfl
      | succ f => simp [abv]
    · obtain ⟨_, hu, _⟩ := h.par (Nat.pos_of_ne_zero h0) hk
      obtain ⟨f', rfl⟩ : ∃ f', f = f' + 1 := ⟨f - 1, by omega⟩
      obtain ⟨k', hk'⟩ : ∃ k', k = k' + 1 := ⟨k - 1, by omega⟩
      have e1 := ih (up l k) hu (by omega) f' (by omega)
      have e2 := ih (up l k) hu (by omega) k' (by omega)
      rw [show abv l k i k = abv l (k' + 1) i k by rw [← hk']]
      simp only [abv]
      rw [e1, e2]
theorem above_zero (i : Nat) : aboveT l i 0 = decide (i = 0) := by
  unfold aboveT abv
  rw [Bool.eq_iff_iff, decide_eq_true_iff, decide_eq_true_iff]
  exact ⟨fun h => h.symm, fun h => h.symm⟩
theorem above_up (h : MayT l) (i : Nat) {k : Nat} (h0 : 0 < k) (hk : k < l.length) : aboveT l i k = if i < k then aboveT l i (up l k) else decide (k = i) := by
  obtain ⟨_, hu, _⟩ := h.par h0 hk
  obtain ⟨k', rfl⟩ : ∃ k', k = k' + 1 := ⟨k - 1, by omega⟩
  unfold aboveT
  rw [show abv l (k' + 1) i (k' + 1) = if i < k' + 1 then abv l k' i (up l (k' + 1)) else decide (k' + 1 = i) from rfl]
  rw [abv_fuel h i (up l (k' + 1)) (by omega) k' (by omega)]
theorem above_le (h : MayT l) (i : Nat) : ∀ k, k < l.length → aboveT l i k = true → i ≤ k := by
  intro k
  induction k using Nat.strongRecOn with
  | _ k ih =>
    intro hk ha
    by_cases h0 : k = 0
    · subst h0; rw [above_zero, decide_eq_true_iff] at ha; omega
    · obtain ⟨_, hu, _⟩ := h.par (Nat.pos_of_ne_zero h0) hk
      rw [above_up h i (Nat.pos_of_ne_zero h0) hk] at ha
      split at ha
      · have := ih _ hu (by omega) ha; omega
      · rw [decide_eq_true_iff] at ha; omega
theorem above_iff (h : MayT l) (i : Nat) {k : Nat} (h0 : 0 < k) (hk : k < l.length) : aboveT l i k = true ↔ i = k ∨ aboveT l i (up l k) = true := by
  obtain ⟨_, hu, _⟩ := h.par h0 hk
  rw [above_up h i h0 hk]
  constructor
  · intro ha
    split at ha
    · exact .inr ha
    · rw [decide_eq_true_iff] at ha; exact .inl ha.symm
  · rintro (rfl | ha)
    · rw [if_neg (by omega), decide_eq_true_iff]
    · have := above_le h i _ (by omega) ha
      rw [if_pos (by omega)]; exact ha
theorem above_refl (h : MayT l) {k : Nat} (hk : k < l.length) : aboveT l k k = true := by
  by_cases h0 : k = 0
  · subst h0; rw [above_zero]; rfl
  · rw [above_iff h k (Nat.pos_of_ne_zero h0) hk]; exact .inl rfl
theorem above_first (h : MayT l) : ∀ k, k < l.length → aboveT l 0 k = true := by
  intro k
  induction k using Nat.strongRecOn with
  | _ k ih =>
    intro hk
    by_cases h0 : k = 0
    · subst h0; rw [above_zero]; rfl
    · obtain ⟨_, hu, _⟩ := h.par (Nat.pos_of_ne_zero h0) hk
      rw [above_iff h 0 (Nat.pos_of_ne_zero h0) hk]
      exact .inr (ih _ hu (by omega))
theorem above_trans (h : MayT l) {a b : Nat} (hab : aboveT l a b = true) : ∀ c, c < l.length → aboveT l b c = true → aboveT l a c = true := by
  intro c
  induction c using Nat.strongRecOn with
  | _ c ih =>
    intro hc hbc
    by_cases h0 : c = 0
    · subst h0
      rw [above_zero, decide_eq_true_iff] at hbc
      subst hbc; exact hab
    · obtain ⟨_, hu, _⟩ := h.par (Nat.pos_of_ne_zero h0) hc
      rcases (above_iff h b (Nat.pos_of_ne_zero h0) hc).1 hbc with rfl | hb
      · exact hab
      · exact (above_iff h a (Nat.pos_of_ne_zero h0) hc).2 (.inr (ih _ hu (by omega) hb))
theorem above_chain (h : MayT l) {a c : Nat} : ∀ b, b < l.length → aboveT l a b = true → aboveT l c b = true → aboveT l a c = true ∨ aboveT l c a = true := by
  intro b
  induction b using Nat.strongRecOn with
  | _ b ih =>
    intro hb ha hc
    by_cases h0 : b = 0
    · subst h0
      rw [above_zero, decide_eq_true_iff] at ha hc
      subst ha hc
      exact .inl (by rw [above_zero]; rfl)
    · obtain ⟨_, hu, _⟩ := h.par (Nat.pos_of_ne_zero h0) hb
      rcases (above_iff h a (Nat.pos_of_ne_zero h0) hb).1 ha with rfl | ha'
      · exact .inr hc
      · rcases (above_iff h c (Nat.pos_of_ne_zero h0) hb).1 hc with rfl | hc'
        · exact .inl ha
        · exact ih _ hu (by omega) ha' hc'
theorem above_slot (h : MayT l) {a : Nat} : ∀ b, b < l.length → aboveT l a b = true → sl l a ≤ sl l b := by
  intro b
  induction b using Nat.strongRecOn with
  | _ b ih =>
    intro hb ha
    by_cases h0 : b = 0
    · subst h0
      rw [above_zero, decide_eq_true_iff] at ha
      subst ha; exact Nat.le_refl _
    · obtain ⟨_, hu, hs⟩ := h.par (Nat.pos_of_ne_zero h0) hb
      rcases (above_iff h a (Nat.pos_of_ne_zero h0) hb).1 ha with rfl | ha'
      · exact Nat.le_refl _
      · have := ih _ hu (by omega) ha'; omega

/-! ### the ancestor at a slot -/
def atF (l : List Nd) (s : Nat) : Nat → Nat → Int
  | 0, i => if sl l i ≤ s then i else -1
  | f + 1, i => if sl l i ≤ s then i else if i = 0 then -1 else atF l s f (up l i)
def atT (l : List Nd) (i s : Nat) : Int := atF l s i i
theorem atF_fuel (h : MayT l) (s : Nat) : ∀ (k : Nat), k < l.length → ∀ f, k ≤ f → atF l s f k = atF l s k k := by
  intro k
  induction k using Nat.strongRecOn with
  | _ k ih =>
    intro hk f hf
    by_cases h0 : k = 0
    · subst h0
      cases f with
      | zero => rfl
      | succ f => simp [atF]
    · obtain ⟨_, hu, _⟩ := h.par (Nat.pos_of_ne_zero h0) hk
      obtain ⟨f', rfl⟩ : ∃ f', f = f' + 1 := ⟨f - 1, by omega⟩
      obtain ⟨k', hk'⟩ : ∃ k', k = k' + 1 := ⟨k - 1, by omega⟩
      have e1 := ih (up l k) hu (by omega) f' (by omega)
      have e2 := ih (up l k) hu (by omega) k' (by omega)
      rw [show atF l s k k = atF l s (k' + 1) k by rw [← hk']]
      simp only [atF]
      rw [e1, e2]
theorem at_up (h : MayT l) (s : Nat) {k : Nat} (h0 : 0 < k) (hk : k < l.length) : atT l k s = if sl l k ≤ s then (k : Int) else atT l (up l k) s := by
  obtain ⟨_, hu, _⟩ := h.par h0 hk
  obtain ⟨k', rfl⟩ : ∃ k', k = k' + 1 := ⟨k - 1, by omega⟩
  unfold atT
  rw [show atF l s (k' + 1) (k' + 1) = if sl l (k' + 1) ≤ s then ((k' + 1 : Nat) : Int) else if k' + 1 = 0 then -1 else atF l s k' (up l (k' + 1)) from rfl]
  rw [if_neg (show ¬ k' + 1 = 0 by omega), atF_fuel h s (up l (k' + 1)) (by omega) k' (by omega)]
theorem at_zero (s : Nat) : atT l 0 s = if sl l 0 ≤ s then (0 : Int) else -1 := rfl
/-- What the ancestor at a slot is. -/
theorem at_spec (h : MayT l) (s : Nat) : ∀ i, i < l.length → (atT l i s = -1 ∧ ∀ k, aboveT l k i = true → s < sl l k) ∨ ∃ n : Nat, atT l i s = n ∧ n < l.length ∧ aboveT l n i = true ∧ sl l n ≤ s ∧ ∀ k, aboveT l k i = true → sl l k ≤ s → aboveT l k n = true := by
  intro i
  induction i using Nat.strongRecOn with
  | _ i ih =>
    intro hi
    by_cases hs : sl l i ≤ s
    · refine .inr ⟨i, ?_, hi, above_refl h hi, hs, fun k hk _ => hk⟩
      by_cases h0 : i = 0
      · subst h0; rw [at_zero, if_pos hs]; rfl
      · rw [at_up h s (Nat.pos_of_ne_zero h0) hi, if_pos hs]
    · by_cases h0 : i = 0
      · subst h0
        refine .inl ⟨by rw [at_zero, if_neg hs], fun k hk => ?_⟩
        rw [above_zero, decide_eq_true_iff] at hk
        subst hk; omega
      · obtain ⟨_, hu, _⟩ := h.par (Nat.pos_of_ne_zero h0) hi
        rw [at_up h s (Nat.pos_of_ne_zero h0) hi, if_neg hs]
        rcases ih _ hu (by omega) with ⟨e, hn⟩ | ⟨n, e, hn, ha, hsn, hall⟩
        · refine .inl ⟨e, fun k hk => ?_⟩
          rcases (above_iff h k (Nat.pos_of_ne_zero h0) hi).1 hk with rfl | hk'
          · omega
          · exact hn k hk'
        · refine .inr ⟨n, e, hn, (above_iff h n (Nat.pos_of_ne_zero h0) hi).2 (.inr ha), hsn, fun k hk hks => ?_⟩
          rcases (above_iff h k (Nat.pos_of_ne_zero h0) hi).1 hk with rfl | hk'
          · omega
          · exact hall k hk' hks
end
end Go.Proofs.Ytlhnjaeocoafnaa
namespace Go.Proofs.Ytlhnjaeocoafnaa
set_option maxRecDepth 100000

section
variable {l : List Nd}
theorem nd_snoc (x : Nd) {i : Nat} (h : i < l.length) : nd (l ++ [x]) i = nd l i := by
  unfold nd
  simp only [List.getD_eq_getElem?_getD]
  rw [List.getElem?_append_left h]
theorem nd_last (x : Nd) : nd (l ++ [x]) l.length = x := by
  unfold nd
  simp

/-! ### found -/
def posR (l : List Nd) (r : Rt) : Nat := l.findIdx fun n => decide (n.root = r)
def findT (l : List Nd) (r : Rt) : Int := if MayT l ∧ posR l r < l.length then posR l r else -1
theorem posR_at {r : Rt} (h : posR l r < l.length) : (nd l (posR l r)).root = r := by
  rw [nd_in l h]
  have : (fun n : Nd => decide (n.root = r)) (l[posR l r]'h) = true := List.findIdx_getElem (w := h)
  simpa using this
theorem posR_before {r : Rt} {i : Nat} (hi : i < posR l r) (hl : i < l.length) : (nd l i).root ≠ r := by
  rw [nd_in l hl]
  have := List.not_of_lt_findIdx hi
  simpa using this
theorem find_spec (h : MayT l) (r : Rt) : (∃ i : Nat, i < l.length ∧ findT l r = i ∧ (nd l i).root = r) ∨ (findT l r = -1 ∧ ∀ i, i < l.length → (nd l i).root ≠ r) := by
  by_cases hp : posR l r < l.length
  · exact .inl ⟨_, hp, by unfold findT; rw [if_pos ⟨h, hp⟩], posR_at hp⟩
  · exact .inr ⟨by unfold findT; rw [if_neg (fun e => hp e.2)], fun i hi => posR_before (by omega) hi⟩
theorem find_at (h : MayT l) {i : Nat} (hi : i < l.length) : findT l (nd l i).root = i := by
  rcases find_spec h (nd l i).root with ⟨k, hk, e, hr⟩ | ⟨_, hn⟩
  · rw [e, h.roots hk hi hr]
  · exact absurd rfl (hn i hi)
theorem find_not (h : ¬ MayT l) (r : Rt) : findT l r = -1 := by unfold findT; rw [if_neg (fun e => h e.1)]
theorem find_ge (r : Rt) : -1 ≤ findT l r := by unfold findT; split <;> omega

/-! ### put -/
def insE (l : List Nd) (r p : Rt) (s : UInt64) : Nat :=
  if ¬ MayT l then 1 else if 0 ≤ findT l r then 4 else if findT l p < 0 then 5 else if s.toNat ≤ sl l (findT l p).toNat ∨ 1099511627776 < s.toNat then 6 else if l.length = 12 then 3 else 0
def insN (l : List Nd) (r p : Rt) (s j : UInt64) : Nd := ⟨r, findT l p, s, j⟩
def insL (l : List Nd) (r p : Rt) (s j : UInt64) : List Nd := if insE l r p s = 0 then l ++ [insN l r p s j] else l
theorem insE_zero {r p : Rt} {s : UInt64} (h : insE l r p s = 0) : MayT l ∧ findT l r = -1 ∧ (∃ q : Nat, findT l p = q ∧ q < l.length ∧ (nd l q).root = p ∧ sl l q < s.toNat) ∧ s.toNat ≤ 1099511627776 ∧ l.length < 12 := by
  unfold insE at h
  split at h
  · cases h
  · rename_i hm
    have hm : MayT l := Classical.not_not.1 hm
    split at h
    · cases h
    · split at h
      · cases h
      · split at h
        · cases h
        · split at h
          · cases h
          · rename_i h1 h2 h3 h4
            rcases find_spec hm p with ⟨q, hq, e, hr⟩ | ⟨e, _⟩
            · refine ⟨hm, ?_, ⟨q, e, hq, hr, ?_⟩, by omega, by have := hm.le; omega⟩
              · have := find_ge (l := l) r; omega
              · rw [e] at h3
                have : (q : Int).toNat = q := by omega
                rw [this] at h3
                omega
            · omega
theorem may_snoc (h : MayT l) {x : Nd} (hl : l.length < 12) (hs : x.slot.toNat ≤ 1099511627776) {q : Nat} (hq : q < l.length) (hp : x.parent = q) (hsl : sl l q < x.slot.toNat) (hr : ∀ i, i < l.length → (nd l i).root ≠ x.root) : MayT (l ++ [x]) := by
  refine ⟨by simp, by simp; omega, fun i hi => ?_⟩
  simp at hi
  by_cases e : i < l.length
  · obtain ⟨h1, h2, h3, h4⟩ := h.2.2 i e
    refine ⟨?_, ?_, fun h0 => ?_, fun k hk => ?_⟩
    · unfold sl; rw [nd_snoc x e]; exact h1
    · rw [nd_snoc x e]; exact h2
    · obtain ⟨a, b, c⟩ := h3 h0
      unfold up sl at *
      rw [nd_snoc x e]
      refine ⟨a, b, ?_⟩
      rw [nd_snoc x (show (nd l i).parent.toNat < l.length by omega)]
      exact c
    · rw [nd_snoc x e, nd_snoc x (by omega)]; exact h4 k hk
  · obtain rfl : i = l.length := by omega
    refine ⟨?_, fun h0 => ?_, fun _ => ?_, fun k hk => ?_⟩
    · unfold sl; rw [nd_last]; exact hs
    · have := h.pos; omega
    · unfold up sl
      rw [nd_last, hp]
      refine ⟨by omega, by omega, ?_⟩
      rw [show (q : Int).toNat = q by omega, nd_snoc x hq]
      exact hsl
    · rw [nd_last, nd_snoc x hk]; exact hr k hk
theorem ins_may {r p : Rt} {s : UInt64} (j : UInt64) (h : insE l r p s = 0) : MayT (l ++ [insN l r p s j]) := by
  obtain ⟨hm, hr, ⟨q, e, hq, _, hsl⟩, hs, hl⟩ := insE_zero h
  refine may_snoc hm hl hs hq e hsl fun i hi he => ?_
  have := find_at hm hi
  rw [he] at this
  have : findT l r = i := this
  omega
theorem ins_keeps (h : MayT l) (r p : Rt) (s j : UInt64) : MayT (insL l r p s j) := by
  unfold insL
  split
  · rename_i he; exact ins_may j he
  · exact h
theorem ins_again {r p : Rt} {s : UInt64} (j : UInt64) (h : insE l r p s = 0) : insE (l ++ [insN l r p s j]) r p s = 4 ∧ findT (l ++ [insN l r p s j]) r = l.length := by
  have hm := ins_may j h
  have hf : findT (l ++ [insN l r p s j]) r = l.length := by
    have := find_at hm (i := l.length) (by simp)
    rw [nd_last] at this
    exact this
  refine ⟨?_, hf⟩
  unfold insE
  rw [if_neg (Classical.not_not.2 hm), if_pos (by rw [hf]; omega)]

/-! ### who is above whom, behind what is put -/
theorem up_snoc (x : Nd) {i : Nat} (h : i < l.length) : up (l ++ [x]) i = up l i := by unfold up; rw [nd_snoc x h]
theorem above_snoc {x : Nd} (h : MayT l) (h' : MayT (l ++ [x])) (i : Nat) : ∀ k, k < l.length → aboveT (l ++ [x]) i k = aboveT l i k := by
  intro k
  induction k using Nat.strongRecOn with
  | _ k ih =>
    intro hk
    by_cases h0 : k = 0
    · subst h0; rw [above_zero, above_zero]
    · obtain ⟨_, hu, _⟩ := h.par (Nat.pos_of_ne_zero h0) hk
      rw [above_up h' i (Nat.pos_of_ne_zero h0) (by simp; omega), above_up h i (Nat.pos_of_ne_zero h0) hk, up_snoc x hk, ih _ hu (by omega)]
theorem above_last {x : Nd} (h : MayT l) (h' : MayT (l ++ [x])) (i : Nat) : aboveT (l ++ [x]) i l.length = true ↔ i = l.length ∨ aboveT l i x.parent.toNat = true := by
  have hp := h.pos
  rw [above_iff h' i hp (by simp)]
  have e : up (l ++ [x]) l.length = x.parent.toNat := by unfold up; rw [nd_last]
  have hu := (h'.par hp (by simp : l.length < (l ++ [x]).length)).2.1
  rw [e] at hu
  rw [e, above_snoc h h' i _ hu]
theorem last_not_above {x : Nd} (h' : MayT (l ++ [x])) {i : Nat} (hi : i < l.length) : aboveT (l ++ [x]) l.length i = false := by
  rw [← Bool.not_eq_true]
  intro e
  have := above_le h' _ i (by simp; omega) e
  omega

/-! ### children -/
def kidsT (l : List Nd) (i : Nat) : List Nat := (List.range l.length).filter fun k => decide ((nd l k).parent = (i : Int))
theorem mem_kids {i k : Nat} : k ∈ kidsT l i ↔ k < l.length ∧ (nd l k).parent = (i : Int) := by
  unfold kidsT; rw [List.mem_filter, List.mem_range, decide_eq_true_iff]
theorem kids_pos (h : MayT l) {i k : Nat} (hk : k ∈ kidsT l i) : i < k ∧ sl l i < sl l k ∧ up l k = i := by
  obtain ⟨h1, h2⟩ := mem_kids.1 hk
  by_cases h0 : k = 0
  · subst h0; rw [h.first] at h2; omega
  · obtain ⟨e, hu, hs⟩ := h.par (Nat.pos_of_ne_zero h0) h1
    have : up l k = i := by omega
    rw [this] at hu hs
    exact ⟨hu, hs, this⟩
theorem kids_last {x : Nd} (h' : MayT (l ++ [x])) : kidsT (l ++ [x]) l.length = [] := by
  rw [List.eq_nil_iff_forall_not_mem]
  intro k hk
  have h1 := (mem_kids.1 hk).1
  have h2 := (kids_pos h' hk).1
  simp at h1
  omega
/-- Children rise. -/
theorem range_filter_rises (p : Nat → Bool) (n : Nat) : ((List.range n).filter p).Pairwise (· < ·) :=
  List.Pairwise.filter _ List.pairwise_lt_range
end
end Go.Proofs.Ytlhnjaeocoafnaa
