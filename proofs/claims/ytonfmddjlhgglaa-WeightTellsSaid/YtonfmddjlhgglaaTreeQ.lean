/-
  Trees, plainly: what is found, what is put, children.
-/
import Derived.Test.YtonfmddjlhgglaaTreeP
namespace Go.Proofs.Ytonfmddjlhgglaa

section
variable {l : List Nd}
theorem nd_snoc (x : Nd) {i : Nat} (h : i < l.length) : nd (l ++ [x]) i = nd l i := by
  unfold nd
  simp only [List.getD_eq_getElem?_getD]
  rw [List.getElem?_append_left h]
theorem nd_last (x : Nd) : nd (l ++ [x]) l.length = x := by
  unfold nd
  simp

/-! ### found -/
def posR (l : List Nd) (r : Rt) : Nat := l.findIdx fun n => decide (n.root = r)
def findT (l : List Nd) (r : Rt) : Int := if MayT l ∧ posR l r < l.length then posR l r else -1
theorem posR_at {r : Rt} (h : posR l r < l.length) : (nd l (posR l r)).root = r := by
  rw [nd_in l h]
  have : (fun n : Nd => decide (n.root = r)) (l[posR l r]'h) = true := List.findIdx_getElem (w := h)
  simpa using this
theorem posR_before {r : Rt} {i : Nat} (hi : i < posR l r) (hl : i < l.length) : (nd l i).root ≠ r := by
  rw [nd_in l hl]
  have := List.not_of_lt_findIdx hi
  simpa using this
theorem find_spec (h : MayT l) (r : Rt) : (∃ i : Nat, i < l.length ∧ findT l r = i ∧ (nd l i).root = r) ∨ (findT l r = -1 ∧ ∀ i, i < l.length → (nd l i).root ≠ r) := by
  by_cases hp : posR l r < l.length
  · exact .inl ⟨_, hp, by unfold findT; rw [if_pos ⟨h, hp⟩], posR_at hp⟩
  · exact .inr ⟨by unfold findT; rw [if_neg (fun e => hp e.2)], fun i hi => posR_before (by omega) hi⟩
theorem find_at (h : MayT l) {i : Nat} (hi : i < l.length) : findT l (nd l i).root = i := by
  rcases find_spec h (nd l i).root with ⟨k, hk, e, hr⟩ | ⟨_, hn⟩
  · rw [e, h.roots hk hi hr]
  · exact absurd rfl (hn i hi)
theorem find_not (h : ¬ MayT l) (r : Rt) : findT l r = -1 := by unfold findT; rw [if_neg (fun e => h e.1)]
theorem find_ge (r : Rt) : -1 ≤ findT l r := by unfold findT; split <;> omega

/-! ### put -/
def insE (l : List Nd) (r p : Rt) (s : UInt64) : Nat :=
  if ¬ MayT l then 1 else if 0 ≤ findT l r then 4 else if findT l p < 0 then 5 else if s.toNat ≤ sl l (findT l p).toNat ∨ 1099511627776 < s.toNat then 6 else if l.length = 12 then 3 else 0
def insN (l : List Nd) (r p : Rt) (s j : UInt64) : Nd := ⟨r, findT l p, s, j⟩
def insL (l : List Nd) (r p : Rt) (s j : UInt64) : List Nd := if insE l r p s = 0 then l ++ [insN l r p s j] else l
theorem insE_zero {r p : Rt} {s : UInt64} (h : insE l r p s = 0) : MayT l ∧ findT l r = -1 ∧ (∃ q : Nat, findT l p = q ∧ q < l.length ∧ (nd l q).root = p ∧ sl l q < s.toNat) ∧ s.toNat ≤ 1099511627776 ∧ l.length < 12 := by
  unfold insE at h
  split at h
  · cases h
  · rename_i hm
    have hm : MayT l := Classical.not_not.1 hm
    split at h
    · cases h
    · split at h
      · cases h
      · split at h
        · cases h
        · split at h
          · cases h
          · rename_i h1 h2 h3 h4
            rcases find_spec hm p with ⟨q, hq, e, hr⟩ | ⟨e, _⟩
            · refine ⟨hm, ?_, ⟨q, e, hq, hr, ?_⟩, by omega, by have := hm.le; omega⟩
              · have := find_ge (l := l) r; omega
              · rw [e] at h3
                have : (q : Int).toNat = q := by omega
                rw [this] at h3
                omega
            · omega
theorem may_snoc (h : MayT l) {x : Nd} (hl : l.length < 12) (hs : x.slot.toNat ≤ 1099511627776) {q : Nat} (hq : q < l.length) (hp : x.parent = q) (hsl : sl l q < x.slot.toNat) (hr : ∀ i, i < l.length → (nd l i).root ≠ x.root) : MayT (l ++ [x]) := by
  refine ⟨by simp, by simp; omega, fun i hi => ?_⟩
  simp at hi
  by_cases e : i < l.length
  · obtain ⟨h1, h2, h3, h4⟩ := h.2.2 i e
    refine ⟨?_, ?_, fun h0 => ?_, fun k hk => ?_⟩
    · unfold sl; rw [nd_snoc x e]; exact h1
    · rw [nd_snoc x e]; exact h2
    · obtain ⟨a, b, c⟩ := h3 h0
      unfold up sl at *
      rw [nd_snoc x e]
      refine ⟨a, b, ?_⟩
      rw [nd_snoc x (show (nd l i).parent.toNat < l.length by omega)]
      exact c
    · rw [nd_snoc x e, nd_snoc x (by omega)]; exact h4 k hk
  · obtain rfl : i = l.length := by omega
    refine ⟨?_, fun h0 => ?_, fun _ => ?_, fun k hk => ?_⟩
    · unfold sl; rw [nd_last]; exact hs
    · have := h.pos; omega
    · unfold up sl
      rw [nd_last, hp]
      refine ⟨by omega, by omega, ?_⟩
      rw [show (q : Int).toNat = q by omega, nd_snoc x hq]
      exact hsl
    · rw [nd_last, nd_snoc x hk]; exact hr k hk
theorem ins_may {r p : Rt} {s : UInt64} (j : UInt64) (h : insE l r p s = 0) : MayT (l ++ [insN l r p s j]) := by
  obtain ⟨hm, hr, ⟨q, e, hq, _, hsl⟩, hs, hl⟩ := insE_zero h
  refine may_snoc hm hl hs hq e hsl fun i hi he => ?_
  have := find_at hm hi
  rw [he] at this
  have : findT l r = i := this
  omega
theorem ins_keeps (h : MayT l) (r p : Rt) (s j : UInt64) : MayT (insL l r p s j) := by
  unfold insL
  split
  · rename_i he; exact ins_may j he
  · exact h
theorem ins_again {r p : Rt} {s : UInt64} (j : UInt64) (h : insE l r p s = 0) : insE (l ++ [insN l r p s j]) r p s = 4 ∧ findT (l ++ [insN l r p s j]) r = l.length := by
  have hm := ins_may j h
  have hf : findT (l ++ [insN l r p s j]) r = l.length := by
    have := find_at hm (i := l.length) (by simp)
    rw [nd_last] at this
    exact this
  refine ⟨?_, hf⟩
  unfold insE
  rw [if_neg (Classical.not_not.2 hm), if_pos (by rw [hf]; omega)]

/-! ### who is above whom, behind what is put -/
theorem up_snoc (x : Nd) {i : Nat} (h : i < l.length) : up (l ++ [x]) i = up l i := by unfold up; rw [nd_snoc x h]
theorem above_snoc {x : Nd} (h : MayT l) (h' : MayT (l ++ [x])) (i : Nat) : ∀ k, k < l.length → aboveT (l ++ [x]) i k = aboveT l i k := by
  intro k
  induction k using Nat.strongRecOn with
  | _ k ih =>
    intro hk
    by_cases h0 : k = 0
    · subst h0; rw [above_zero, above_zero]
    · obtain ⟨_, hu, _⟩ := h.par (Nat.pos_of_ne_zero h0) hk
      rw [above_up h' i (Nat.pos_of_ne_zero h0) (by simp; omega), above_up h i (Nat.pos_of_ne_zero h0) hk, up_snoc x hk, ih _ hu (by omega)]
theorem above_last {x : Nd} (h : MayT l) (h' : MayT (l ++ [x])) (i : Nat) : aboveT (l ++ [x]) i l.length = true ↔ i = l.length ∨ aboveT l i x.parent.toNat = true := by
  have hp := h.pos
  rw [above_iff h' i hp (by simp)]
  have e : up (l ++ [x]) l.length = x.parent.toNat := by unfold up; rw [nd_last]
  have hu := (h'.par hp (by simp : l.length < (l ++ [x]).length)).2.1
  rw [e] at hu
  rw [e, above_snoc h h' i _ hu]
theorem last_not_above {x : Nd} (h' : MayT (l ++ [x])) {i : Nat} (hi : i < l.length) : aboveT (l ++ [x]) l.length i = false := by
  rw [← Bool.not_eq_true]
  intro e
  have := above_le h' _ i (by simp; omega) e
  omega

/-! ### children -/
def kidsT (l : List Nd) (i : Nat) : List Nat := (List.range l.length).filter fun k => decide ((nd l k).parent = (i : Int))
theorem mem_kids {i k : Nat} : k ∈ kidsT l i ↔ k < l.length ∧ (nd l k).parent = (i : Int) := by
  unfold kidsT; rw [List.mem_filter, List.mem_range, decide_eq_true_iff]
theorem kids_pos (h : MayT l) {i k : Nat} (hk : k ∈ kidsT l i) : i < k ∧ sl l i < sl l k ∧ up l k = i := by
  obtain ⟨h1, h2⟩ := mem_kids.1 hk
  by_cases h0 : k = 0
  · subst h0; rw [h.first] at h2; omega
  · obtain ⟨e, hu, hs⟩ := h.par (Nat.pos_of_ne_zero h0) h1
    have : up l k = i := by omega
    rw [this] at hu hs
    exact ⟨hu, hs, this⟩
theorem kids_last {x : Nd} (h' : MayT (l ++ [x])) : kidsT (l ++ [x]) l.length = [] := by
  rw [List.eq_nil_iff_forall_not_mem]
  intro k hk
  have h1 := (mem_kids.1 hk).1
  have h2 := (kids_pos h' hk).1
  simp at h1
  omega
/-- Children rise. -/
theorem range_filter_rises (p : Nat → Bool) (n : Nat) : ((List.range n).filter p).Pairwise (· < ·) :=
  List.Pairwise.filter _ List.pairwise_lt_range
end
end Go.Proofs.Ytonfmddjlhgglaa
