/-
  Trees, plainly: who may be, who is above whom, ancestors at slots, children, what is put, what is cut; no word of the program.
  Trees, plainly: what is found, what is put, children.
  Trees, plainly: what is cut.
  Trees, plainly: the functions at whatever places; what the laws of layer 6 want of them.
  Trees, plainly: which nodes may be a head, which lead on, where one begins; what the laws of layer 10 want of them.
-/
import Derived.Test.YtanoijcgkacnmaaRt
namespace Go.Proofs.Ytanoijcgkacnmaa

structure Nd where
  root : Rt
  parent : Int
  slot : UInt64
  just : UInt64
theorem Nd.ext {x y : Nd} (h0 : x.root = y.root) (h1 : x.parent = y.parent) (h2 : x.slot = y.slot) (h3 : x.just = y.just) : x = y := by cases x; cases y; simp_all
instance : DecidableEq Nd := fun x y => decidable_of_iff (x.root = y.root ∧ x.parent = y.parent ∧ x.slot = y.slot ∧ x.just = y.just) ⟨fun h => Nd.ext h.1 h.2.1 h.2.2.1 h.2.2.2, fun h => by subst h; exact ⟨rfl, rfl, rfl, rfl⟩⟩

def nd (l : List Nd) (i : Nat) : Nd := l.getD i ⟨zr, 0, 0, 0⟩
theorem nd_in (l : List Nd) {i : Nat} (h : i < l.length) : nd l i = l[i] := by simp [nd, h]
def sl (l : List Nd) (i : Nat) : Nat := (nd l i).slot.toNat
def up (l : List Nd) (i : Nat) : Nat := (nd l i).parent.toNat
/-- A node at its place. -/
def NodeOk (l : List Nd) (i : Nat) : Prop :=
  sl l i ≤ 1099511627776 ∧ (i = 0 → (nd l i).parent = -1) ∧ (0 < i → 0 ≤ (nd l i).parent ∧ (nd l i).parent < i ∧ sl l (up l i) < sl l i) ∧ ∀ k, k < i → (nd l k).root ≠ (nd l i).root
instance (l : List Nd) (i : Nat) : Decidable (NodeOk l i) := by unfold NodeOk; exact inferInstance
def MayT (l : List Nd) : Prop := 1 ≤ l.length ∧ l.length ≤ 12 ∧ ∀ i, i < l.length → NodeOk l i
instance (l : List Nd) : Decidable (MayT l) := by unfold MayT; exact inferInstance

section
variable {l : List Nd}
theorem MayT.pos (h : MayT l) : 0 < l.length := h.1
theorem MayT.le (h : MayT l) : l.length ≤ 12 := h.2.1
theorem MayT.first (h : MayT l) : (nd l 0).parent = -1 := (h.2.2 0 h.pos).2.1 rfl
theorem MayT.par (h : MayT l) {k : Nat} (h0 : 0 < k) (hk : k < l.length) : (nd l k).parent = (up l k : Int) ∧ up l k < k ∧ sl l (up l k) < sl l k := by
  obtain ⟨a, b, c⟩ := (h.2.2 k hk).2.2.1 h0
  unfold up at *
  exact ⟨by omega, by omega, c⟩
theorem MayT.slot (h : MayT l) {k : Nat} (hk : k < l.length) : sl l k ≤ 1099511627776 := (h.2.2 k hk).1
theorem MayT.roots (h : MayT l) {i k : Nat} (hi : i < l.length) (hk : k < l.length) (e : (nd l i).root = (nd l k).root) : i = k := by
  rcases Nat.lt_trichotomy i k with h1 | h1 | h1
  · exact absurd e ((h.2.2 k hk).2.2.2 i h1)
  · exact h1
  · exact absurd e.symm ((h.2.2 i hi).2.2.2 k h1)

/-! ### above -/
def abv (l : List Nd) : Nat → Nat → Nat → Bool
  | 0, i, k => decide (k = i)
  | f + 1, i, k => if i < k then abv l f i (up l k) else decide (k = i)
def aboveT (l : List Nd) (i k : Nat) : Bool := abv l k i k
theorem abv_fuel (h : MayT l) (i : Nat) : ∀ (k : Nat), k < l.length → ∀ f, k ≤ f → abv l f i k = abv l k i k := by
  intro k
  induction k using Nat.strongRecOn with
  | _ k ih =>
    intro hk f hf
    by_cases h0 : k = 0
    · subst h0
      cases f with
      | zero => rfl
      | succ f => simp [abv]
    · obtain ⟨_, hu, _⟩ := h.par (Nat.pos_of_ne_zero h0) hk
      obtain ⟨f', rfl⟩ : ∃ f', f = f' + 1 := ⟨f - 1, by omega⟩
      obtain ⟨k', hk'⟩ : ∃ k', k = k' + 1 := ⟨k - 1, by omega⟩
      have e1 := ih (up l k) hu (by omega) f' (by omega)
      have e2 := ih (up l k) hu (by omega) k' (by omega)
      rw [show abv l k i k = abv l (k' + 1) i k by rw [← hk']]
      simp only [abv]
      rw [e1, e2]
theorem above_zero (i : Nat) : aboveT l i 0 = decide (i = 0) := by
  unfold aboveT abv
  rw [Bool.eq_iff_iff, decide_eq_true_iff, decide_eq_true_iff]
  exact ⟨fun h => h.symm, fun h => h.symm⟩
theorem above_up (h : MayT l) (i : Nat) {k : Nat} (h0 : 0 < k) (hk : k < l.length) : aboveT l i k = if i < k then aboveT l i (up l k) else decide (k = i) := by
  obtain ⟨_, hu, _⟩ := h.par h0 hk
  obtain ⟨k', rfl⟩ : ∃ k', k = k' + 1 := ⟨k - 1, by omega⟩
  unfold aboveT
  rw [show abv l (k' + 1) i (k' + 1) = if i < k' + 1 then abv l k' i (up l (k' + 1)) else decide (k' + 1 = i) from rfl]
  rw [abv_fuel h i (up l (k' + 1)) (by omega) k' (by omega)]
theorem above_le (h : MayT l) (i : Nat) : ∀ k, k < l.length → aboveT l i k = true → i ≤ k := by
  intro k
  induction k using Nat.strongRecOn with
  | _ k ih =>
    intro hk ha
    by_cases h0 : k = 0
    · subst h0; rw [above_zero, decide_eq_true_iff] at ha; omega
    · obtain ⟨_, hu, _⟩ := h.par (Nat.pos_of_ne_zero h0) hk
      rw [above_up h i (Nat.pos_of_ne_zero h0) hk] at ha
      split at ha
      · have := ih _ hu (by omega) ha; omega
      · rw [decide_eq_true_iff] at ha; omega
theorem above_iff (h : MayT l) (i : Nat) {k : Nat} (h0 : 0 < k) (hk : k < l.length) : aboveT l i k = true ↔ i = k ∨ aboveT l i (up l k) = true := by
  obtain ⟨_, hu, _⟩ := h.par h0 hk
  rw [above_up h i h0 hk]
  constructor
  · intro ha
    split at ha
    · exact .inr ha
    · rw [decide_eq_true_iff] at ha; exact .inl ha.symm
  · rintro (rfl | ha)
    · rw [if_neg (by omega), decide_eq_true_iff]
    · have := above_le h i _ (by omega) ha
      rw [if_pos (by omega)]; exact ha
theorem above_refl (h : MayT l) {k : Nat} (hk : k < l.length) : aboveT l k k = true := by
  by_cases h0 : k = 0
  · subst h0; rw [above_zero]; rfl
  · rw [above_iff h k (Nat.pos_of_ne_zero h0) hk]; exact .inl rfl
theorem above_first (h : MayT l) : ∀ k, k < l.length → aboveT l 0 k = true := by
  intro k
  induction k using Nat.strongRecOn with
  | _ k ih =>
    intro hk
    by_cases h0 : k = 0
    · subst h0; rw [above_zero]; rfl
    · obtain ⟨_, hu, _⟩ := h.par (Nat.pos_of_ne_zero h0) hk
      rw [above_iff h 0 (Nat.pos_of_ne_zero h0) hk]
      exact .inr (ih _ hu (by omega))
theorem above_trans (h : MayT l) {a b : Nat} (hab : aboveT l a b = true) : ∀ c, c < l.length → aboveT l b c = true → aboveT l a c = true := by
  intro c
  induction c using Nat.strongRecOn with
  | _ c ih =>
    intro hc hbc
    by_cases h0 : c = 0
    · subst h0
      rw [above_zero, decide_eq_true_iff] at hbc
      subst hbc; exact hab
    · obtain ⟨_, hu, _⟩ := h.par (Nat.pos_of_ne_zero h0) hc
      rcases (above_iff h b (Nat.pos_of_ne_zero h0) hc).1 hbc with rfl | hb
      · exact hab
      · exact (above_iff h a (Nat.pos_of_ne_zero h0) hc).2 (.inr (ih _ hu (by omega) hb))
theorem above_chain (h : MayT l) {a c : Nat} : ∀ b, b < l.length → aboveT l a b = true → aboveT l c b = true → aboveT l a c = true ∨ aboveT l c a = true := by
  intro b
  induction b using Nat.strongRecOn with
  | _ b ih =>
    intro hb ha hc
    by_cases h0 : b = 0
    · subst h0
      rw [above_zero, decide_eq_true_iff] at ha hc
      subst ha hc
      exact .inl (by rw [above_zero]; rfl)
    · obtain ⟨_, hu, _⟩ := h.par (Nat.pos_of_ne_zero h0) hb
      rcases (above_iff h a (Nat.pos_of_ne_zero h0) hb).1 ha with rfl | ha'
      · exact .inr hc
      · rcases (above_iff h c (Nat.pos_of_ne_zero h0) hb).1 hc with rfl | hc'
        · exact .inl ha
        · exact ih _ hu (by omega) ha' hc'
theorem above_slot (h : MayT l) {a : Nat} : ∀ b, b < l.length → aboveT l a b = true → sl l a ≤ sl l b := by
  intro b
  induction b using Nat.strongRecOn with
  | _ b ih =>
    intro hb ha
    by_cases h0 : b = 0
    · subst h0
      rw [above_zero, decide_eq_true_iff] at ha
      subst ha; exact Nat.le_refl _
    · obtain ⟨_, hu, hs⟩ := h.par (Nat.pos_of_ne_zero h0) hb
      rcases (above_iff h a (Nat.pos_of_ne_zero h0) hb).1 ha with rfl | ha'
      · exact Nat.le_refl _
      · have := ih _ hu (by omega) ha'; omega

/-! ### the ancestor at a slot -/
def atF (l : List Nd) (s : Nat) : Nat → Nat → Int
  | 0, i => if sl l i ≤ s then i else -1
  | f + 1, i => if sl l i ≤ s then i else if i = 0 then -1 else atF l s f (up l i)
def atT (l : List Nd) (i s : Nat) : Int := atF l s i i
theorem atF_fuel (h : MayT l) (s : Nat) : ∀ (k : Nat), k < l.length → ∀ f, k ≤ f → atF l s f k = atF l s k k := by
  intro k
  induction k using Nat.strongRecOn with
  | _ k ih =>
    intro hk f hf
    by_cases h0 : k = 0
    · subst h0
      cases f with
      | zero => rfl
      | succ f => simp [atF]
    · obtain ⟨_, hu, _⟩ := h.par (Nat.pos_of_ne_zero h0) hk
      obtain ⟨f', rfl⟩ : ∃ f', f = f' + 1 := ⟨f - 1, by omega⟩
      obtain ⟨k', hk'⟩ : ∃ k', k = k' + 1 := ⟨k - 1, by omega⟩
      have e1 := ih (up l k) hu (by omega) f' (by omega)
      have e2 := ih (up l k) hu (by omega) k' (by omega)
      rw [show atF l s k k = atF l s (k' + 1) k by rw [← hk']]
      simp only [atF]
      rw [e1, e2]
theorem at_up (h : MayT l) (s : Nat) {k : Nat} (h0 : 0 < k) (hk : k < l.length) : atT l k s = if sl l k ≤ s then (k : Int) else atT l (up l k) s := by
  obtain ⟨_, hu, _⟩ := h.par h0 hk
  obtain ⟨k', rfl⟩ : ∃ k', k = k' + 1 := ⟨k - 1, by omega⟩
  unfold atT
  rw [show atF l s (k' + 1) (k' + 1) = if sl l (k' + 1) ≤ s then ((k' + 1 : Nat) : Int) else if k' + 1 = 0 then -1 else atF l s k' (up l (k' + 1)) from rfl]
  rw [if_neg (show ¬ k' + 1 = 0 by omega), atF_fuel h s (up l (k' + 1)) (by omega) k' (by omega)]
theorem at_zero (s : Nat) : atT l 0 s = if sl l 0 ≤ s then (0 : Int) else -1 := rfl
/-- What the ancestor at a slot is. -/
theorem at_spec (h : MayT l) (s : Nat) : ∀ i, i < l.length → (atT l i s = -1 ∧ ∀ k, aboveT l k i = true → s < sl l k) ∨ ∃ n : Nat, atT l i s = n ∧ n < l.length ∧ aboveT l n i = true ∧ sl l n ≤ s ∧ ∀ k, aboveT l k i = true → sl l k ≤ s → aboveT l k n = true := by
  intro i
  induction i using Nat.strongRecOn with
  | _ i ih =>
    intro hi
    by_cases hs : sl l i ≤ s
    · refine .inr ⟨i, ?_, hi, above_refl h hi, hs, fun k hk _ => hk⟩
      by_cases h0 : i = 0
      · subst h0; rw [at_zero, if_pos hs]; rfl
      · rw [at_up h s (Nat.pos_of_ne_zero h0) hi, if_pos hs]
    · by_cases h0 : i = 0
      · subst h0
        refine .inl ⟨by rw [at_zero, if_neg hs], fun k hk => ?_⟩
        rw [above_zero, decide_eq_true_iff] at hk
        subst hk; omega
      · obtain ⟨_, hu, _⟩ := h.par (Nat.pos_of_ne_zero h0) hi
        rw [at_up h s (Nat.pos_of_ne_zero h0) hi, if_neg hs]
        rcases ih _ hu (by omega) with ⟨e, hn⟩ | ⟨n, e, hn, ha, hsn, hall⟩
        · refine .inl ⟨e, fun k hk => ?_⟩
          rcases (above_iff h k (Nat.pos_of_ne_zero h0) hi).1 hk with rfl | hk'
          · omega
          · exact hn k hk'
        · refine .inr ⟨n, e, hn, (above_iff h n (Nat.pos_of_ne_zero h0) hi).2 (.inr ha), hsn, fun k hk hks => ?_⟩
          rcases (above_iff h k (Nat.pos_of_ne_zero h0) hi).1 hk with rfl | hk'
          · omega
          · exact hall k hk' hks
end
end Go.Proofs.Ytanoijcgkacnmaa
namespace Go.Proofs.Ytanoijcgkacnmaa

section
variable {l : List Nd}
theorem nd_snoc (x : Nd) {i : Nat} (h : i < l.length) : nd (l ++ [x]) i = nd l i := by
  unfold nd
  simp only [List.getD_eq_getElem?_getD]
  rw [List.getElem?_append_left h]
theorem nd_last (x : Nd) : nd (l ++ [x]) l.length = x := by
  unfold nd
  simp

/-! ### found -/
def posR (l : List Nd) (r : Rt) : Nat := l.findIdx fun n => decide (n.root = r)
def findT (l : List Nd) (r : Rt) : Int := if MayT l ∧ posR l r < l.length then posR l r else -1
theorem posR_at {r : Rt} (h : posR l r < l.length) : (nd l (posR l r)).root = r := by
  rw [nd_in l h]
  have : (fun n : Nd => decide (n.root = r)) (l[posR l r]'h) = true := List.findIdx_getElem (w := h)
  simpa using this
theorem posR_before {r : Rt} {i : Nat} (hi : i < posR l r) (hl : i < l.length) : (nd l i).root ≠ r := by
  rw [nd_in l hl]
  have := List.not_of_lt_findIdx hi
  simpa using this
theorem find_spec (h : MayT l) (r : Rt) : (∃ i : Nat, i < l.length ∧ findT l r = i ∧ (nd l i).root = r) ∨ (findT l r = -1 ∧ ∀ i, i < l.length → (nd l i).root ≠ r) := by
  by_cases hp : posR l r < l.length
  · exact .inl ⟨_, hp, by unfold findT; rw [if_pos ⟨h, hp⟩], posR_at hp⟩
  · exact .inr ⟨by unfold findT; rw [if_neg (fun e => hp e.2)], fun i hi => posR_before (by omega) hi⟩
theorem find_at (h : MayT l) {i : Nat} (hi : i < l.length) : findT l (nd l i).root = i := by
  rcases find_spec h (nd l i).root with ⟨k, hk, e, hr⟩ | ⟨_, hn⟩
  · rw [e, h.roots hk hi hr]
  · exact absurd rfl (hn i hi)
theorem find_not (h : ¬ MayT l) (r : Rt) : findT l r = -1 := by unfold findT; rw [if_neg (fun e => h e.1)]
theorem find_ge (r : Rt) : -1 ≤ findT l r := by unfold findT; split <;> omega

/-! ### put -/
def insE (l : List Nd) (r p : Rt) (s : UInt64) : Nat :=
  if ¬ MayT l then 1 else if 0 ≤ findT l r then 4 else if findT l p < 0 then 5 else if s.toNat ≤ sl l (findT l p).toNat ∨ 1099511627776 < s.toNat then 6 else if l.length = 12 then 3 else 0
def insN (l : List Nd) (r p : Rt) (s j : UInt64) : Nd := ⟨r, findT l p, s, j⟩
def insL (l : List Nd) (r p : Rt) (s j : UInt64) : List Nd := if insE l r p s = 0 then l ++ [insN l r p s j] else l
theorem insE_zero {r p : Rt} {s : UInt64} (h : insE l r p s = 0) : MayT l ∧ findT l r = -1 ∧ (∃ q : Nat, findT l p = q ∧ q < l.length ∧ (nd l q).root = p ∧ sl l q < s.toNat) ∧ s.toNat ≤ 1099511627776 ∧ l.length < 12 := by
  unfold insE at h
  split at h
  · cases h
  · rename_i hm
    have hm : MayT l := Classical.not_not.1 hm
    split at h
    · cases h
    · split at h
      · cases h
      · split at h
        · cases h
        · split at h
          · cases h
          · rename_i h1 h2 h3 h4
            rcases find_spec hm p with ⟨q, hq, e, hr⟩ | ⟨e, _⟩
            · refine ⟨hm, ?_, ⟨q, e, hq, hr, ?_⟩, by omega, by have := hm.le; omega⟩
              · have := find_ge (l := l) r; omega
              · rw [e] at h3
                have : (q : Int).toNat = q := by omega
                rw [this] at h3
                omega
            · omega
theorem may_snoc (h : MayT l) {x : Nd} (hl : l.length < 12) (hs : x.slot.toNat ≤ 1099511627776) {q : Nat} (hq : q < l.length) (hp : x.parent = q) (hsl : sl l q < x.slot.toNat) (hr : ∀ i, i < l.length → (nd l i).root ≠ x.root) : MayT (l ++ [x]) := by
  refine ⟨by simp, by simp; omega, fun i hi => ?_⟩
  simp at hi
  by_cases e : i < l.length
  · obtain ⟨h1, h2, h3, h4⟩ := h.2.2 i e
    refine ⟨?_, ?_, fun h0 => ?_, fun k hk => ?_⟩
    · unfold sl; rw [nd_snoc x e]; exact h1
    · rw [nd_snoc x e]; exact h2
    · obtain ⟨a, b, c⟩ := h3 h0
      unfold up sl at *
      rw [nd_snoc x e]
      refine ⟨a, b, ?_⟩
      rw [nd_snoc x (show (nd l i).parent.toNat < l.length by omega)]
      exact c
    · rw [nd_snoc x e, nd_snoc x (by omega)]; exact h4 k hk
  · obtain rfl : i = l.length := by omega
    refine ⟨?_, fun h0 => ?_, fun _ => ?_, fun k hk => ?_⟩
    · unfold sl; rw [nd_last]; exact hs
    · have := h.pos; omega
    · unfold up sl
      rw [nd_last, hp]
      refine ⟨by omega, by omega, ?_⟩
      rw [show (q : Int).toNat = q by omega, nd_snoc x hq]
      exact hsl
    · rw [nd_last, nd_snoc x hk]; exact hr k hk
theorem ins_may {r p : Rt} {s : UInt64} (j : UInt64) (h : insE l r p s = 0) : MayT (l ++ [insN l r p s j]) := by
  obtain ⟨hm, hr, ⟨q, e, hq, _, hsl⟩, hs, hl⟩ := insE_zero h
  refine may_snoc hm hl hs hq e hsl fun i hi he => ?_
  have := find_at hm hi
  rw [he] at this
  have : findT l r = i := this
  omega
theorem ins_keeps (h : MayT l) (r p : Rt) (s j : UInt64) : MayT (insL l r p s j) := by
  unfold insL
  split
  · rename_i he; exact ins_may j he
  · exact h
theorem ins_again {r p : Rt} {s : UInt64} (j : UInt64) (h : insE l r p s = 0) : insE (l ++ [insN l r p s j]) r p s = 4 ∧ findT (l ++ [insN l r p s j]) r = l.length := by
  have hm := ins_may j h
  have hf : findT (l ++ [insN l r p s j]) r = l.length := by
    have := find_at hm (i := l.length) (by simp)
    rw [nd_last] at this
    exact this
  refine ⟨?_, hf⟩
  unfold insE
  rw [if_neg (Classical.not_not.2 hm), if_pos (by rw [hf]; omega)]

/-! ### who is above whom, behind what is put -/
theorem up_snoc (x : Nd) {i : Nat} (h : i < l.length) : up (l ++ [x]) i = up l i := by unfold up; rw [nd_snoc x h]
theorem above_snoc {x : Nd} (h : MayT l) (h' : MayT (l ++ [x])) (i : Nat) : ∀ k, k < l.length → aboveT (l ++ [x]) i k = aboveT l i k := by
  intro k
  induction k using Nat.strongRecOn with
  | _ k ih =>
    intro hk
    by_cases h0 : k = 0
    · subst h0; rw [above_zero, above_zero]
    · obtain ⟨_, hu, _⟩ := h.par (Nat.pos_of_ne_zero h0) hk
      rw [above_up h' i (Nat.pos_of_ne_zero h0) (by simp; omega), above_up h i (Nat.pos_of_ne_zero h0) hk, up_snoc x hk, ih _ hu (by omega)]
theorem above_last {x : Nd} (h : MayT l) (h' : MayT (l ++ [x])) (i : Nat) : aboveT (l ++ [x]) i l.length = true ↔ i = l.length ∨ aboveT l i x.parent.toNat = true := by
  have hp := h.pos
  rw [above_iff h' i hp (by simp)]
  have e : up (l ++ [x]) l.length = x.parent.toNat := by unfold up; rw [nd_last]
  have hu := (h'.par hp (by simp : l.length < (l ++ [x]).length)).2.1
  rw [e] at hu
  rw [e, above_snoc h h' i _ hu]
theorem last_not_above {x : Nd} (h' : MayT (l ++ [x])) {i : Nat} (hi : i < l.length) : aboveT (l ++ [x]) l.length i = false := by
  rw [← Bool.not_eq_true]
  intro e
  have := above_le h' _ i (by simp; omega) e
  omega

/-! ### children -/
def kidsT (l : List Nd) (i : Nat) : List Nat := (List.range l.length).filter fun k => decide ((nd l k).parent = (i : Int))
theorem mem_kids {i k : Nat} : k ∈ kidsT l i ↔ k < l.length ∧ (nd l k).parent = (i : Int) := by
  unfold kidsT; rw [List.mem_filter, List.mem_range, decide_eq_true_iff]
theorem kids_pos (h : MayT l) {i k : Nat} (hk : k ∈ kidsT l i) : i < k ∧ sl l i < sl l k ∧ up l k = i := by
  obtain ⟨h1, h2⟩ := mem_kids.1 hk
  by_cases h0 : k = 0
  · subst h0; rw [h.first] at h2; omega
  · obtain ⟨e, hu, hs⟩ := h.par (Nat.pos_of_ne_zero h0) h1
    have : up l k = i := by omega
    rw [this] at hu hs
    exact ⟨hu, hs, this⟩
theorem kids_last {x : Nd} (h' : MayT (l ++ [x])) : kidsT (l ++ [x]) l.length = [] := by
  rw [List.eq_nil_iff_forall_not_mem]
  intro k hk
  have h1 := (mem_kids.1 hk).1
  have h2 := (kids_pos h' hk).1
  simp at h1
  omega
/-- Children rise. -/
theorem range_filter_rises (p : Nat → Bool) (n : Nat) : ((List.range n).filter p).Pairwise (· < ·) :=
  List.Pairwise.filter _ List.pairwise_lt_range
end
end Go.Proofs.Ytanoijcgkacnmaa
namespace Go.Proofs.Ytanoijcgkacnmaa

/-! ### those of a range that are kept, and their places -/
section
variable (p : Nat → Bool)
def rankP (k : Nat) : Nat := ((List.range k).filter p).length
theorem range_split {k n : Nat} (h : k ≤ n) : List.range n = List.range k ++ List.range' k (n - k) := by
  have e : n = k + (n - k) := by omega
  have := List.range'_append_1 (s := 0) (m := k) (n := n - k)
  rw [Nat.zero_add, ← e] at this
  rw [List.range_eq_range', List.range_eq_range', this]
theorem rank_get {k n : Nat} (h : k < n) (hp : p k = true) : ((List.range n).filter p)[rankP p k]? = some k := by
  unfold rankP
  rw [range_split (Nat.le_of_lt h), List.filter_append, List.getElem?_append_right (Nat.le_refl _), Nat.sub_self]
  rw [show n - k = (n - k - 1) + 1 by omega, List.range'_succ, List.filter_cons, if_pos hp]
  rfl
theorem rank_lt {k n : Nat} (h : k < n) (hp : p k = true) : rankP p k < ((List.range n).filter p).length := (List.getElem?_eq_some_iff.1 (rank_get p h hp)).1
theorem rank_mono {a b : Nat} (h : a < b) (hp : p a = true) : rankP p a < rankP p b := rank_lt p h hp
theorem rank_inj {a b : Nat} (ha : p a = true) (hb : p b = true) (e : rankP p a = rankP p b) : a = b := by
  rcases Nat.lt_trichotomy a b with h | h | h
  · have := rank_mono p h ha; omega
  · exact h
  · have := rank_mono p h hb; omega
theorem rank_all {n m : Nat} (h : m < ((List.range n).filter p).length) : ∃ k, k < n ∧ p k = true ∧ rankP p k = m := by
  have hk : ((List.range n).filter p)[m] ∈ (List.range n).filter p := List.getElem_mem h
  rw [List.mem_filter, List.mem_range] at hk
  refine ⟨_, hk.1, hk.2, ?_⟩
  have h1 := rank_get p hk.1 hk.2
  obtain ⟨h2, h3⟩ := List.getElem?_eq_some_iff.1 h1
  have hr := List.pairwise_iff_getElem.1 (List.Pairwise.filter p (List.pairwise_lt_range (n := n)))
  rcases Nat.lt_trichotomy (rankP p ((List.range n).filter p)[m]) m with h4 | h4 | h4
  · have := hr _ _ h2 h h4; omega
  · exact h4
  · have := hr _ _ h h2 h4; omega
theorem rank_zero {i : Nat} (h : ∀ k, p k = true → i ≤ k) : rankP p i = 0 := by
  unfold rankP
  rw [List.length_eq_zero_iff, List.filter_eq_nil_iff]
  intro a ha e
  have := h a e
  rw [List.mem_range] at ha
  omega
theorem rank_succ (k : Nat) : rankP p (k + 1) = rankP p k + if p k = true then 1 else 0 := by
  unfold rankP
  rw [List.range_succ, List.filter_append, List.length_append]
  congr 1
  by_cases h : p k = true
  · simp [h]
  · simp [h]
end

/-! ### the tree cut -/
/-- Those that descend from i, in their tree. -/
def keptB (l : List Nd) (i k : Nat) : Bool := decide (k < l.length) && aboveT l i k
def rankT (l : List Nd) (i k : Nat) : Nat := rankP (keptB l i) k
def cutN (l : List Nd) (i k : Nat) : Nd := { nd l k with parent := if k = i then -1 else (rankT l i (up l k) : Int) }
def keptT (l : List Nd) (i : Nat) : List Nat := (List.range l.length).filter (keptB l i)
def cutL (l : List Nd) (i : Nat) : List Nd := (keptT l i).map (cutN l i)
section
variable {l : List Nd}
theorem kept_iff {i k : Nat} : keptB l i k = true ↔ k < l.length ∧ aboveT l i k = true := by
  unfold keptB; rw [Bool.and_eq_true, decide_eq_true_iff]
theorem kept_self (h : MayT l) {i : Nat} (hi : i < l.length) : keptB l i i = true := kept_iff.2 ⟨hi, above_refl h hi⟩
theorem kept_le (h : MayT l) {i k : Nat} (hk : keptB l i k = true) : i ≤ k := above_le h i k (kept_iff.1 hk).1 (kept_iff.1 hk).2
theorem rank_first (h : MayT l) (i : Nat) : rankT l i i = 0 := rank_zero _ fun _ hk => kept_le h hk
theorem cut_len {i : Nat} : (cutL l i).length = (keptT l i).length := by unfold cutL; rw [List.length_map]
theorem rank_in {i k : Nat} (hk : keptB l i k = true) : rankT l i k < (cutL l i).length := by
  rw [cut_len]; exact rank_lt _ (kept_iff.1 hk).1 hk
theorem cut_nd {i k : Nat} (hk : keptB l i k = true) : nd (cutL l i) (rankT l i k) = cutN l i k := by
  unfold nd cutL
  rw [List.getD_eq_getElem?_getD, List.getElem?_map]
  have := rank_get (keptB l i) (kept_iff.1 hk).1 hk
  unfold keptT rankT
  rw [this]
  rfl
theorem cut_all {i m : Nat} (hm : m < (cutL l i).length) : ∃ k, keptB l i k = true ∧ rankT l i k = m := by
  rw [cut_len] at hm
  obtain ⟨k, _, hk, e⟩ := rank_all _ hm
  exact ⟨k, hk, e⟩
theorem cut_sl {i k : Nat} (hk : keptB l i k = true) : sl (cutL l i) (rankT l i k) = sl l k := by unfold sl; rw [cut_nd hk]; rfl
theorem cut_root {i k : Nat} (hk : keptB l i k = true) : (nd (cutL l i) (rankT l i k)).root = (nd l k).root := by rw [cut_nd hk]; rfl
theorem kept_up (h : MayT l) {i k : Nat} (hk : keptB l i k = true) (hne : k ≠ i) : 0 < k ∧ keptB l i (up l k) = true ∧ up l k < k ∧ sl l (up l k) < sl l k := by
  obtain ⟨h1, h2⟩ := kept_iff.1 hk
  have h0 : 0 < k := by
    rcases Nat.eq_zero_or_pos k with e | e
    · subst e; rw [above_zero, decide_eq_true_iff] at h2; omega
    · exact e
  obtain ⟨_, hu, hs⟩ := h.par h0 h1
  rcases (above_iff h i h0 h1).1 h2 with e | e
  · omega
  · exact ⟨h0, kept_iff.2 ⟨by omega, e⟩, hu, hs⟩
theorem cut_up (h : MayT l) {i k : Nat} (hk : keptB l i k = true) (hne : k ≠ i) : up (cutL l i) (rankT l i k) = rankT l i (up l k) := by
  have _ := h
  unfold up
  rw [cut_nd hk]
  show (if k = i then (-1 : Int) else (rankT l i (up l k) : Int)).toNat = _
  rw [if_neg hne]
  show ((rankT l i (up l k) : Nat) : Int).toNat = rankT l i (up l k)
  omega
theorem cut_may (h : MayT l) {i : Nat} (hi : i < l.length) : MayT (cutL l i) := by
  have hs := kept_self h hi
  refine ⟨?_, ?_, fun m hm => ?_⟩
  · have := rank_in hs; omega
  · rw [cut_len]
    have : (keptT l i).length ≤ (List.range l.length).length := List.length_filter_le _ _
    rw [List.length_range] at this
    have := h.le
    omega
  · obtain ⟨k, hk, rfl⟩ := cut_all hm
    have hkl := (kept_iff.1 hk).1
    refine ⟨by rw [cut_sl hk]; exact h.slot hkl, fun h0 => ?_, fun h0 => ?_, fun m' hm' => ?_⟩
    · have : k = i := rank_inj _ hk hs (h0.trans (rank_first h i).symm)
      rw [cut_nd hk]
      unfold cutN
      rw [if_pos this]
    · have hne : k ≠ i := fun e => by subst e; rw [rank_first h k] at h0; omega
      obtain ⟨_, hu, hlt, hsl⟩ := kept_up h hk hne
      have e : (nd (cutL l i) (rankT l i k)).parent = (rankT l i (up l k) : Int) := by
        rw [cut_nd hk]; unfold cutN; rw [if_neg hne]
      refine ⟨by rw [e]; omega, ?_, ?_⟩
      · rw [e]
        have := rank_mono (keptB l i) hlt hu
        unfold rankT
        omega
      · rw [cut_up h hk hne, cut_sl hu, cut_sl hk]; exact hsl
    · obtain ⟨k', hk', rfl⟩ := cut_all (show m' < (cutL l i).length by omega)
      rw [cut_root hk, cut_root hk']
      intro e
      have := h.roots (kept_iff.1 hk').1 hkl e
      subst this
      omega
theorem cut_find (h : MayT l) {i a : Nat} (hi : i < l.length) (ha : a < l.length) : findT (cutL l i) (nd l a).root = if aboveT l i a = true then (rankT l i a : Int) else -1 := by
  have hc := cut_may h hi
  by_cases hab : aboveT l i a = true
  · have hk : keptB l i a = true := kept_iff.2 ⟨ha, hab⟩
    rw [if_pos hab, ← cut_root hk]
    exact find_at hc (rank_in hk)
  · rw [if_neg hab]
    rcases find_spec hc (nd l a).root with ⟨m, hm, _, hr⟩ | ⟨e, _⟩
    · obtain ⟨k, hk, rfl⟩ := cut_all hm
      rw [cut_root hk] at hr
      have := h.roots (kept_iff.1 hk).1 ha hr
      subst this
      exact absurd (kept_iff.1 hk).2 hab
    · exact e
theorem cut_first (h : MayT l) {i : Nat} (hi : i < l.length) : (nd (cutL l i) 0).root = (nd l i).root := by
  have := cut_root (kept_self h hi)
  rwa [rank_first h i] at this
theorem cut_above (h : MayT l) {i a : Nat} (hi : i < l.length) (ha : keptB l i a = true) : ∀ b, keptB l i b = true → aboveT (cutL l i) (rankT l i a) (rankT l i b) = aboveT l a b := by
  have hc := cut_may h hi
  intro b
  induction b using Nat.strongRecOn with
  | _ b ih =>
    intro hb
    have hbl := (kept_iff.1 hb).1
    by_cases hbi : b = i
    · subst hbi
      rw [rank_first h b, above_zero, Bool.eq_iff_iff, decide_eq_true_iff]
      constructor
      · intro e
        have : a = b := rank_inj _ ha hb (e.trans (rank_first h b).symm)
        subst this
        exact above_refl h hbl
      · intro e
        have h1 := above_le h a b hbl e
        have h2 := kept_le h ha
        have : a = b := by omega
        subst this
        exact rank_first h a
    · obtain ⟨h0, hu, hlt, _⟩ := kept_up h hb hbi
      have hr0 : 0 < rankT l i b := by
        have := rank_mono (keptB l i) (show i < b by have := kept_le h hb; omega) (kept_self h hi)
        unfold rankT; omega
      rw [Bool.eq_iff_iff, above_iff hc _ hr0 (rank_in hb), above_iff h a h0 hbl, cut_up h hb hbi, ih _ hlt hu]
      constructor
      · rintro (e | e)
        · exact .inl (rank_inj _ ha hb e)
        · exact .inr e
      · rintro (e | e)
        · subst e; exact .inl rfl
        · exact .inr e
theorem at_self (h : MayT l) {i s : Nat} (hi : i < l.length) (hs : sl l i ≤ s) : atT l i s = i := by
  by_cases h0 : i = 0
  · subst h0; rw [at_zero, if_pos hs]; rfl
  · rw [at_up h s (Nat.pos_of_ne_zero h0) hi, if_pos hs]
theorem cut_at (h : MayT l) {i : Nat} (hi : i < l.length) (s : Nat) : ∀ a, keptB l i a = true → atT (cutL l i) (rankT l i a) s = if sl l i ≤ s then (rankT l i (atT l a s).toNat : Int) else -1 := by
  have hc := cut_may h hi
  intro a
  induction a using Nat.strongRecOn with
  | _ a ih =>
    intro ha
    have hal := (kept_iff.1 ha).1
    by_cases hai : a = i
    · subst hai
      rw [rank_first h a, at_zero]
      have e : sl (cutL l a) 0 = sl l a := by have := cut_sl ha; rwa [rank_first h a] at this
      rw [e]
      by_cases hs : sl l a ≤ s
      · rw [if_pos hs, if_pos hs, at_self h hal hs]
        have : ((a : Int)).toNat = a := by omega
        rw [this, rank_first h a]; rfl
      · rw [if_neg hs, if_neg hs]
    · obtain ⟨h0, hu, hlt, _⟩ := kept_up h ha hai
      have hr0 : 0 < rankT l i a := by
        have := rank_mono (keptB l i) (show i < a by have := kept_le h ha; omega) (kept_self h hi)
        unfold rankT; omega
      rw [at_up hc s hr0 (rank_in ha), cut_sl ha, cut_up h ha hai, ih _ hlt hu, at_up h s h0 hal]
      by_cases hs : sl l a ≤ s
      · rw [if_pos hs, if_pos hs]
        have := above_slot h a hal (kept_iff.1 ha).2
        rw [if_pos (by omega)]
        have : ((a : Int)).toNat = a := by omega
        rw [this]
      · rw [if_neg hs, if_neg hs]
/-- The ancestor at a slot from the cut's own on is kept. -/
theorem at_kept (h : MayT l) {i a s : Nat} (ha : keptB l i a = true) (hs : sl l i ≤ s) : ∃ q : Nat, atT l a s = q ∧ keptB l i q = true := by
  obtain ⟨hal, hia⟩ := kept_iff.1 ha
  rcases at_spec h s a hal with ⟨_, hn⟩ | ⟨q, e, hq, _, _, hall⟩
  · have := hn i hia; omega
  · exact ⟨q, e, kept_iff.2 ⟨hq, hall i hia hs⟩⟩
end
end Go.Proofs.Ytanoijcgkacnmaa
namespace Go.Proofs.Ytanoijcgkacnmaa

def isT (l : List Nd) (i : Int) : Bool := decide (MayT l) && (decide (0 ≤ i) && decide (i < l.length))
def aboveZ (l : List Nd) (i k : Int) : Bool := (isT l i && isT l k) && aboveT l i.toNat k.toNat
def atZ (l : List Nd) (i : Int) (s : Nat) : Int := if isT l i = true then atT l i.toNat s else -1
def kidsZ (l : List Nd) (i : Int) : List Nat := if isT l i = true then kidsT l i.toNat else []
def cutZ (l : List Nd) (i : Int) : List Nd := if isT l i = true then cutL l i.toNat else []
section
variable {l : List Nd}
theorem isT_iff {i : Int} : isT l i = true ↔ MayT l ∧ 0 ≤ i ∧ i < l.length := by
  unfold isT
  rw [Bool.and_eq_true, Bool.and_eq_true, decide_eq_true_iff, decide_eq_true_iff, decide_eq_true_iff]
theorem isT_nat (h : MayT l) {i : Nat} (hi : i < l.length) : isT l (i : Int) = true := isT_iff.2 ⟨h, by omega, by omega⟩
theorem aboveZ_nat (h : MayT l) {i k : Nat} (hi : i < l.length) (hk : k < l.length) : aboveZ l (i : Int) (k : Int) = aboveT l i k := by
  unfold aboveZ
  rw [isT_nat h hi, isT_nat h hk]
  simp
theorem atZ_nat (h : MayT l) {i : Nat} (hi : i < l.length) (s : Nat) : atZ l (i : Int) s = atT l i s := by
  unfold atZ
  rw [if_pos (isT_nat h hi)]
  simp
theorem kidsZ_nat (h : MayT l) {i : Nat} (hi : i < l.length) : kidsZ l (i : Int) = kidsT l i := by
  unfold kidsZ
  rw [if_pos (isT_nat h hi)]
  simp
theorem cutZ_nat (h : MayT l) {i : Nat} (hi : i < l.length) : cutZ l (i : Int) = cutL l i := by
  unfold cutZ
  rw [if_pos (isT_nat h hi)]
  simp

/-! ### TreeAbove -/
theorem above_antisymm (h : MayT l) {a b : Nat} (ha : a < l.length) (hb : b < l.length) (h1 : aboveT l a b = true) (h2 : aboveT l b a = true) : a = b := by
  have := above_le h a b hb h1
  have := above_le h b a ha h2
  omega
theorem law_above (h : MayT l) {a b c : Nat} (ha : a < l.length) (hb : b < l.length) (hc : c < l.length) :
    aboveT l 0 a = true ∧ aboveT l a a = true ∧ (aboveT l a b = true → aboveT l b c = true → aboveT l a c = true) ∧ (aboveT l a b = true → aboveT l b a = true → a = b) ∧ (aboveT l a b = true → aboveT l c b = true → aboveT l a c = false → aboveT l c a = true) :=
  ⟨above_first h a ha, above_refl h ha, fun h1 h2 => above_trans h h1 c hc h2, fun h1 h2 => above_antisymm h ha hb h1 h2, fun h1 h2 h3 => (above_chain h b hb h1 h2).resolve_left (by rw [h3]; exact Bool.false_ne_true)⟩

/-! ### TreeAt -/
theorem law_at (h : MayT l) {i s t : Nat} (hi : i < l.length) (hst : t ≤ s) :
    (atT l i s = -1 ∧ atT l i t = -1 ∧ s < sl l 0) ∨ ∃ a : Nat, atT l i s = a ∧ a < l.length ∧ aboveT l a i = true ∧ sl l a ≤ s ∧ (∀ k, k < l.length → aboveT l k i = true → aboveT l k a = false → s < sl l k) ∧ (atT l i t = -1 ∨ ∃ b : Nat, atT l i t = b ∧ b < l.length ∧ aboveT l b a = true) := by
  rcases at_spec h s i hi with ⟨e, hn⟩ | ⟨a, e, ha, hai, hsa, hall⟩
  · refine .inl ⟨e, ?_, hn 0 (above_first h i hi)⟩
    rcases at_spec h t i hi with ⟨e2, _⟩ | ⟨b, _, _, hbi, hsb, _⟩
    · exact e2
    · have := hn b hbi; omega
  · refine .inr ⟨a, e, ha, hai, hsa, fun k _ hk1 hk2 => ?_, ?_⟩
    · apply Classical.byContradiction
      intro hle
      have := hall k hk1 (by omega)
      rw [hk2] at this
      cases this
    · rcases at_spec h t i hi with ⟨e2, _⟩ | ⟨b, e2, hb, hbi, hsb, _⟩
      · exact .inl e2
      · exact .inr ⟨b, e2, hb, hall b hbi (by omega)⟩

/-! ### TreeCut -/
theorem law_cut (h : MayT l) {i a b s : Nat} (hi : i < l.length) (ha : a < l.length) (hb : b < l.length) :
    MayT (cutL l i) ∧ (nd (cutL l i) 0).root = (nd l i).root ∧
    ((findT (cutL l i) (nd l a).root = -1 ∧ aboveT l i a = false) ∨ ∃ x : Nat, findT (cutL l i) (nd l a).root = x ∧ x < (cutL l i).length ∧ aboveT l i a = true ∧
      (findT (cutL l i) (nd l b).root = -1 ∨ ∃ y : Nat, findT (cutL l i) (nd l b).root = y ∧ y < (cutL l i).length ∧ aboveT (cutL l i) x y = aboveT l a b) ∧
      ((s < sl l i ∧ atT (cutL l i) x s = -1) ∨ (sl l i ≤ s ∧ ∃ p q : Nat, atT (cutL l i) x s = p ∧ atT l a s = q ∧ p < (cutL l i).length ∧ q < l.length ∧ (nd (cutL l i) p).root = (nd l q).root))) := by
  refine ⟨cut_may h hi, cut_first h hi, ?_⟩
  rw [cut_find h hi ha, cut_find h hi hb]
  by_cases hab : aboveT l i a = true
  · rw [if_pos hab]
    have hka : keptB l i a = true := kept_iff.2 ⟨ha, hab⟩
    refine .inr ⟨rankT l i a, rfl, rank_in hka, hab, ?_, ?_⟩
    · by_cases hbb : aboveT l i b = true
      · rw [if_pos hbb]
        have hkb : keptB l i b = true := kept_iff.2 ⟨hb, hbb⟩
        exact .inr ⟨rankT l i b, rfl, rank_in hkb, cut_above h hi hka b hkb⟩
      · rw [if_neg hbb]; exact .inl rfl
    · rw [cut_at h hi s a hka]
      by_cases hs : sl l i ≤ s
      · obtain ⟨q, e, hq⟩ := at_kept h hka hs
        rw [if_pos hs, e]
        have : ((q : Int)).toNat = q := by omega
        rw [this]
        exact .inr ⟨hs, rankT l i q, q, rfl, rfl, rank_in hq, (kept_iff.1 hq).1, cut_root hq⟩
      · rw [if_neg hs]; exact .inl ⟨by omega, rfl⟩
  · rw [if_neg hab]
    exact .inl ⟨rfl, by simpa using hab⟩

/-! ### TreeKids -/
theorem kids_nodup (i : Nat) : (kidsT l i).Nodup := List.Pairwise.filter _ List.nodup_range
theorem kids_count (k i : Nat) : (kidsT l k).count i = if i < l.length ∧ (nd l i).parent = (k : Int) then 1 else 0 := by
  by_cases hm : i ∈ kidsT l k
  · rw [if_pos (mem_kids.1 hm)]
    have h1 := List.nodup_iff_count.1 (kids_nodup (l := l) k) i
    have h2 := List.count_pos_iff.2 hm
    omega
  · rw [if_neg (fun e => hm (mem_kids.2 e))]
    exact List.count_eq_zero.2 hm
/-- How many of the first so many nodes i is a child of. -/
def bornT (l : List Nd) (i k : Nat) : Nat := if 0 < i ∧ up l i < k then 1 else 0
theorem born_succ (h : MayT l) {i k : Nat} (hi : i < l.length) : bornT l i (k + 1) = bornT l i k + (kidsT l k).count i := by
  rw [kids_count]
  unfold bornT
  by_cases h0 : i = 0
  · subst h0
    rw [h.first, if_neg (by omega), if_neg (by omega), if_neg (by omega)]
  · obtain ⟨e, _, _⟩ := h.par (Nat.pos_of_ne_zero h0) hi
    rw [e]
    by_cases h1 : up l i < k
    · rw [if_pos (by omega), if_pos (by omega), if_neg (by omega)]
    · by_cases h2 : up l i = k
      · rw [if_pos (by omega), if_neg (by omega), if_pos (by omega)]
      · rw [if_neg (by omega), if_neg (by omega), if_neg (by omega)]
theorem born_zero (i : Nat) : bornT l i 0 = 0 := by unfold bornT; rw [if_neg (by omega)]
theorem born_all (h : MayT l) {i : Nat} (hi : i < l.length) : bornT l i l.length = if 0 < i then 1 else 0 := by
  unfold bornT
  by_cases h0 : 0 < i
  · obtain ⟨_, hu, _⟩ := h.par h0 hi
    rw [if_pos (by omega), if_pos h0]
  · rw [if_neg (by omega), if_neg h0]

/-! ### TreeLast -/
theorem law_last {r p : Rt} {s : UInt64} (j : UInt64) (he : insE l r p s = 0) {i k : Nat} (hi : i < l.length) (hk : k < l.length) :
    ∃ q : Nat, findT l p = q ∧ q < l.length ∧ kidsT (l ++ [insN l r p s j]) l.length = [] ∧ aboveT (l ++ [insN l r p s j]) i l.length = aboveT l i q ∧ aboveT (l ++ [insN l r p s j]) i k = aboveT l i k ∧ aboveT (l ++ [insN l r p s j]) l.length i = false ∧ atT (l ++ [insN l r p s j]) l.length s.toNat = l.length := by
  obtain ⟨hm, _, ⟨q, e, hq, _, _⟩, _, _⟩ := insE_zero he
  have hm' := ins_may j he
  have hp : (insN l r p s j).parent.toNat = q := by
    show (findT l p).toNat = q
    rw [e]; omega
  refine ⟨q, e, hq, kids_last hm', ?_, above_snoc hm hm' i k hk, last_not_above hm' hi, ?_⟩
  · rw [Bool.eq_iff_iff, above_last hm hm', hp]
    exact ⟨fun h => h.resolve_left (by omega), .inr⟩
  · refine at_self hm' (by simp) ?_
    unfold sl
    rw [nd_last]
    exact Nat.le_refl _
end
end Go.Proofs.Ytanoijcgkacnmaa
namespace Go.Proofs.Ytanoijcgkacnmaa

def leafT (l : List Nd) (just : Nat) (fin k : Int) : Bool := aboveZ l fin k && (decide (kidsZ l k = []) && decide (just ≤ (nd l k.toNat).just.toNat))
/-- Does one of the first n lead i on? -/
def anyB (p : Nat → Bool) : Nat → Bool
  | 0 => false
  | n + 1 => anyB p n || p n
theorem anyB_iff (p : Nat → Bool) : ∀ n, anyB p n = true ↔ ∃ k, k < n ∧ p k = true
  | 0 => ⟨fun h => (by cases h), fun ⟨k, hk, _⟩ => (by omega)⟩
  | n + 1 => by
    rw [show anyB p (n + 1) = (anyB p n || p n) from rfl, Bool.or_eq_true, anyB_iff p n]
    constructor
    · rintro (⟨k, hk, h⟩ | h)
      · exact ⟨k, by omega, h⟩
      · exact ⟨n, by omega, h⟩
    · rintro ⟨k, hk, h⟩
      by_cases e : k = n
      · subst e; exact .inr h
      · exact .inl ⟨k, by omega, h⟩
def leadB (l : List Nd) (just : Nat) (fin : Int) (i : Nat) : Bool := anyB (fun k => aboveT l i k && leafT l just fin (k : Int)) l.length
def leadsT (l : List Nd) (just : Nat) (fin : Int) : List Bool := if MayT l then (List.range l.length).map (leadB l just fin) else []
def fromT (l : List Nd) (r : Rt) (fin : Int) : Int := if isT l fin = true then (if aboveZ l fin (findT l r) = true then findT l r else fin) else -1
section
variable {l : List Nd}
theorem lead_iff {just : Nat} {fin : Int} {i : Nat} : leadB l just fin i = true ↔ ∃ k, k < l.length ∧ aboveT l i k = true ∧ leafT l just fin (k : Int) = true := by
  unfold leadB
  rw [anyB_iff]
  simp only [Bool.and_eq_true]
theorem leaf_iff (h : MayT l) {just : Nat} {fin : Int} {k : Nat} (hk : k < l.length) : leafT l just fin (k : Int) = true ↔ aboveZ l fin (k : Int) = true ∧ kidsT l k = [] ∧ just ≤ (nd l k).just.toNat := by
  unfold leafT
  rw [Bool.and_eq_true, Bool.and_eq_true, decide_eq_true_iff, decide_eq_true_iff, kidsZ_nat h hk]
  simp
theorem aboveZ_is {i k : Int} (e : aboveZ l i k = true) : MayT l ∧ 0 ≤ i ∧ i < l.length ∧ 0 ≤ k ∧ k < l.length ∧ aboveT l i.toNat k.toNat = true := by
  unfold aboveZ at e
  rw [Bool.and_eq_true, Bool.and_eq_true, isT_iff, isT_iff] at e
  exact ⟨e.1.1.1, e.1.1.2.1, e.1.1.2.2, e.1.2.2.1, e.1.2.2.2, e.2⟩
/-- What a node is above is itself, or behind a child. -/
theorem above_kid (h : MayT l) {i : Nat} : ∀ k, k < l.length → aboveT l i k = true → k ≠ i → ∃ c, c ∈ kidsT l i ∧ aboveT l c k = true := by
  intro k
  induction k using Nat.strongRecOn with
  | _ k ih =>
    intro hk ha hne
    by_cases h0 : k = 0
    · subst h0; rw [above_zero, decide_eq_true_iff] at ha; omega
    · have hp := Nat.pos_of_ne_zero h0
      obtain ⟨hpar, hu, _⟩ := h.par hp hk
      rcases (above_iff h i hp hk).1 ha with e | e
      · omega
      · by_cases hi : up l k = i
        · exact ⟨k, mem_kids.2 ⟨hk, by rw [hpar, hi]⟩, above_refl h hk⟩
        · obtain ⟨c, hc, hck⟩ := ih _ hu (by omega) e hi
          exact ⟨c, hc, (above_iff h c hp hk).2 (.inr hck)⟩
theorem kid_is_above (h : MayT l) {i c : Nat} (hc : c ∈ kidsT l i) : aboveT l i c = true := by
  obtain ⟨h1, _, h3⟩ := kids_pos h hc
  have hcl := (mem_kids.1 hc).1
  refine (above_iff h i (by omega) hcl).2 (.inr ?_)
  rw [h3]
  exact above_refl h (by omega)
theorem lead_up (h : MayT l) {just : Nat} {fin : Int} {i j : Nat} (hi : aboveT l j i = true) (hl : leadB l just fin i = true) : leadB l just fin j = true := by
  obtain ⟨k, hk, ha, hf⟩ := lead_iff.1 hl
  exact lead_iff.2 ⟨k, hk, above_trans h hi k hk ha, hf⟩
/-- P10.2, of one node. -/
theorem law_leads (h : MayT l) {just : Nat} {fin : Int} {i : Nat} (hi : i < l.length) :
    (leadB l just fin i = true ↔ leafT l just fin (i : Int) = true ∨ ∃ c, c ∈ kidsT l i ∧ leadB l just fin c = true) ∧ (leadB l just fin i = true → ∃ f : Nat, fin = f ∧ f < l.length ∧ (aboveT l i f = true ∨ aboveT l f i = true)) := by
  constructor
  · constructor
    · intro hl
      obtain ⟨k, hk, ha, hf⟩ := lead_iff.1 hl
      by_cases e : k = i
      · subst e; exact .inl hf
      · obtain ⟨c, hc, hck⟩ := above_kid h k hk ha e
        exact .inr ⟨c, hc, lead_iff.2 ⟨k, hk, hck, hf⟩⟩
    · rintro (hf | ⟨c, hc, hl⟩)
      · exact lead_iff.2 ⟨i, hi, above_refl h hi, hf⟩
      · exact lead_up h (kid_is_above h hc) hl
  · intro hl
    obtain ⟨k, hk, ha, hf⟩ := lead_iff.1 hl
    obtain ⟨_, h1, h2, _, _, h3⟩ := aboveZ_is ((leaf_iff h hk).1 hf).1
    have h4 : ((k : Int)).toNat = k := by omega
    rw [h4] at h3
    exact ⟨fin.toNat, by omega, by omega, above_chain h k hk ha h3⟩
theorem law_less (h : MayT l) {just less : Nat} {fin above : Int} (hl : less ≤ just) (ha : aboveZ l above fin = true) {i : Nat} (hi : leadB l just fin i = true) : leadB l less fin i = true ∧ leadB l just above i = true := by
  obtain ⟨k, hk, hik, hf⟩ := lead_iff.1 hi
  obtain ⟨h1, h2, h3⟩ := (leaf_iff h hk).1 hf
  refine ⟨lead_iff.2 ⟨k, hk, hik, (leaf_iff h hk).2 ⟨h1, h2, by omega⟩⟩, lead_iff.2 ⟨k, hk, hik, (leaf_iff h hk).2 ⟨?_, h2, h3⟩⟩⟩
  obtain ⟨_, a1, a2, a3, a4, a5⟩ := aboveZ_is ha
  obtain ⟨_, _, _, b3, b4, b5⟩ := aboveZ_is h1
  unfold aboveZ
  rw [isT_iff.2 ⟨h, a1, a2⟩, isT_iff.2 ⟨h, b3, b4⟩, above_trans h a5 _ (by omega) b5]
  rfl
theorem law_leaf (h : MayT l) {just : Nat} {fin : Int} {i : Nat} (hi : i < l.length) (hk : kidsT l i = []) : leafT l just fin (i : Int) = leadB l just fin i ∧ (leafT l just fin (i : Int) = true ↔ aboveZ l fin (i : Int) = true ∧ just ≤ (nd l i).just.toNat) := by
  constructor
  · rw [Bool.eq_iff_iff, (law_leads h hi).1]
    constructor
    · exact .inl
    · rintro (e | ⟨c, hc, _⟩)
      · exact e
      · rw [hk] at hc; cases hc
  · rw [leaf_iff h hi]
    exact ⟨fun e => ⟨e.1, e.2.2⟩, fun e => ⟨e.1, hk, e.2⟩⟩
theorem law_none (h : MayT l) {just : Nat} {fin : Int} (hj : ∀ k, k < l.length → (nd l k).just.toNat < just) (i : Nat) : leadB l just fin i = false := by
  rw [← Bool.not_eq_true]
  intro hl
  obtain ⟨k, hk, _, hf⟩ := lead_iff.1 hl
  have := hj k hk
  have := ((leaf_iff h hk).1 hf).2.2
  omega
end
end Go.Proofs.Ytanoijcgkacnmaa
