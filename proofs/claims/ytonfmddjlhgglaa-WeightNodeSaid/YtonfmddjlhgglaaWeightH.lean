/-
  Sums handed on from each node to its parent, the last node first, plainly; no word of the program.
-/
import Derived.Test.YtonfmddjlhgglaaWeightQ
namespace Go.Proofs.Ytonfmddjlhgglaa

/-- What a node has when all from m on have handed on. -/
def handW (l : List Nd) (f : Nat → Nat) (m i : Nat) : Nat := f i + sumF (fun c => if m ≤ c ∧ (nd l c).parent = (i : Int) then subT l f c else 0) l.length
theorem fn_setN {b : List UInt64} {k j x : Nat} (hk : k < b.length) (hx : x < 18446744073709551616) : fn (b.set k (UInt64.ofNat x)) j = if j = k then x else fn b j := by
  unfold fn
  rw [List.getD_eq_getElem?_getD, List.getElem?_set]
  by_cases h : k = j
  · subst h
    rw [if_pos rfl, if_pos hk, if_pos rfl]
    show (UInt64.ofNat x).toNat = x
    rw [UInt64.toNat_ofNat', Nat.mod_eq_of_lt hx]
  · rw [if_neg h, if_neg (fun e => h e.symm), List.getD_eq_getElem?_getD]
section
variable {l : List Nd} {f : Nat → Nat}
theorem hand_start (i : Nat) : handW l f l.length i = f i := by
  unfold handW
  rw [sumF_congr (g := fun _ => 0) _ (fun k hk => by rw [if_neg]; rintro ⟨h, _⟩; omega), sumF_zero, Nat.add_zero]
theorem hand_full (h : MayT l) {i m : Nat} (hi : i < l.length) (hm : m ≤ i + 1) : handW l f m i = subT l f i := by
  rw [sub_kids h f hi]
  unfold handW
  congr 1
  refine sumF_congr _ fun c hc => ?_
  by_cases e : (nd l c).parent = (i : Int)
  · rw [if_pos e, if_pos]
    refine ⟨?_, e⟩
    by_cases h0 : c = 0
    · subst h0; rw [h.first] at e; omega
    · obtain ⟨h1, h2, _⟩ := h.par (Nat.pos_of_ne_zero h0) hc
      rw [h1] at e
      omega
  · rw [if_neg e, if_neg (fun x => e x.2)]
theorem hand_le (h : MayT l) {i : Nat} (m : Nat) (hi : i < l.length) : handW l f m i ≤ subT l f i := by
  rw [sub_kids h f hi]
  unfold handW
  refine Nat.add_le_add_left (sumF_le _ fun c _ => ?_) _
  by_cases e : (nd l c).parent = (i : Int)
  · rw [if_pos e]; split <;> omega
  · rw [if_neg (fun x => e x.2)]; omega
/-- One more hands on. -/
theorem hand_step {m : Nat} (hm : m < l.length) (i : Nat) : handW l f m i = handW l f (m + 1) i + (if (nd l m).parent = (i : Int) then subT l f m else 0) := by
  have e1 : (if (nd l m).parent = (i : Int) then subT l f m else 0) = sumF (fun c => if c = m ∧ (nd l m).parent = (i : Int) then subT l f m else 0) l.length := by
    rw [sumF_one (fun c => if c = m ∧ (nd l m).parent = (i : Int) then subT l f m else 0) hm (fun k _ hk => by rw [if_neg]; rintro ⟨h, _⟩; exact hk h)]
    simp
  rw [e1]
  unfold handW
  rw [Nat.add_assoc, ← sumF_add]
  congr 1
  refine sumF_congr _ fun c _ => ?_
  by_cases hc : c = m
  · subst hc
    have h1 : ¬ c + 1 ≤ c := by omega
    by_cases e : (nd l c).parent = (i : Int)
    · simp [e, h1]
    · simp [e]
  · have : (m ≤ c) = (m + 1 ≤ c) := by rw [eq_iff_iff]; omega
    simp [hc, this]

/-- The numbers when all from m on have handed on. -/
def HandI (l : List Nd) (a : List UInt64) (m : Nat) (c : List UInt64) : Prop := c.length = l.length ∧ ∀ i, i < l.length → fn c i = handW l (fn a) m i
variable {a c : List UInt64}
theorem handI_start (h : a.length = l.length) : HandI l a l.length a := ⟨h, fun i _ => (hand_start i).symm⟩
theorem handI_zero (hm : MayT l) (h : HandI l a 1 c) : HandI l a 0 c := ⟨h.1, fun i hi => by
  rw [h.2 i hi, hand_step hm.pos i, hm.first, if_neg (by omega), Nat.add_zero]⟩
theorem handI_step (hm : MayT l) {m : Nat} (h0 : 0 < m) (hl : m < l.length) (h : HandI l a (m + 1) c) (hf : fn c (up l m) + fn c m < 18446744073709551616) : HandI l a m (c.set (up l m) (UInt64.ofNat (fn c (up l m) + fn c m))) := by
  obtain ⟨e1, e2, _⟩ := hm.par h0 hl
  refine ⟨by rw [List.length_set, h.1], fun i hi => ?_⟩
  rw [fn_setN (by rw [h.1]; omega) hf, hand_step hl i, e1, h.2 m hl, h.2 (up l m) (by omega), hand_full hm hl (Nat.le_refl _)]
  by_cases e : i = up l m
  · rw [if_pos e, if_pos (by rw [e]), e]
  · rw [if_neg e, if_neg (by omega), Nat.add_zero, h.2 i hi]
theorem handI_not (hm : MayT l) {m : Nat} (h0 : 0 < m) (hl : m < l.length) (h : HandI l a (m + 1) c) (hf : ¬ fn c (up l m) + fn c m < 18446744073709551616) : subOk l a = false := by
  obtain ⟨e1, e2, _⟩ := hm.par h0 hl
  rw [← Bool.not_eq_true]
  intro e
  have h1 := (subOk_iff.1 e).2.2 (up l m) (by omega)
  have h2 := hand_le (f := fn a) hm m (show up l m < l.length by omega)
  rw [hand_step hl, e1, if_pos rfl] at h2
  rw [h.2 m hl, h.2 (up l m) (by omega), hand_full hm hl (Nat.le_refl _)] at hf
  omega
theorem handI_end (hm : MayT l) (ha : a.length = l.length) (h : HandI l a 0 c) : subOk l a = true ∧ c = subL l a := by
  have e : ∀ i, i < l.length → fn c i = subT l (fn a) i := fun i hi => by rw [h.2 i hi, hand_full hm hi (Nat.zero_le _)]
  have ok : subOk l a = true := subOk_iff.2 ⟨hm, ha, fun i hi => by rw [← e i hi]; exact fn_lt _ _⟩
  exact ⟨ok, fn_ext (by rw [h.1, subL_len ok]) fun i hi => by rw [subL_len ok] at hi; rw [e i hi, subL_fn ok hi]⟩
end
end Go.Proofs.Ytonfmddjlhgglaa
