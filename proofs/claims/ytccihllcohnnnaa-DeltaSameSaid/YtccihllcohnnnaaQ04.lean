/-
  Trees, plainly: what is found, what is put, children.
  Trees, plainly: what is cut.
-/
import Derived.Test.YtccihllcohnnnaaQ03
namespace Go.Proofs.Ytccihllcohnnnaa
set_option maxRecDepth 100000

section
variable {l : List Nd}
theorem nd_snoc (x : Nd) {i : Nat} (h : i < l.length) : nd (l ++ [x]) i = nd l i := by
  unfold nd
  simp only [List.getD_eq_getElem?_getD]
  rw [List.getElem?_append_left h]
theorem nd_last (x : Nd) : nd (l ++ [x]) l.length = x := by
  unfold nd
  simp

/-! ### found -/
def posR (l : List Nd) (r : Rt) : Nat := l.findIdx fun n => decide (n.root = r)
def findT (l : List Nd) (r : Rt) : Int := if MayT l ∧ posR l r < l.length then posR l r else -1
theorem posR_at {r : Rt} (h : posR l r < l.length) : (nd l (posR l r)).root = r := by
  rw [nd_in l h]
  have : (fun n : Nd => decide (n.root = r)) (l[posR l r]'h) = true := List.findIdx_getElem (w := h)
  simpa using this
theorem posR_before {r : Rt} {i : Nat} (hi : i < posR l r) (hl : i < l.length) : (nd l i).root ≠ r := by
  rw [nd_in l hl]
  have := List.not_of_lt_findIdx hi
  simpa using this
theorem find_spec (h : MayT l) (r : Rt) : (∃ i : Nat, i < l.length ∧ findT l r = i ∧ (nd l i).root = r) ∨ (findT l r = -1 ∧ ∀ i, i < l.length → (nd l i).root ≠ r) := by
  by_cases hp : posR l r < l.length
  · exact .inl ⟨_, hp, by unfold findT; rw [if_pos ⟨h, hp⟩], posR_at hp⟩
  · exact .inr ⟨by unfold findT; rw [if_neg (fun e => hp e.2)], fun i hi => posR_before (by omega) hi⟩
theorem find_at (h : MayT l) {i : Nat} (hi : i < l.length) : findT l (nd l i).root = i := by
  rcases find_spec h (nd l i).root with ⟨k, hk, e, hr⟩ | ⟨_, hn⟩
  · rw [e, h.roots hk hi hr]
  · exact absurd rfl (hn i hi)
theorem find_not (h : ¬ MayT l) (r : Rt) : findT l r = -1 := by unfold findT; rw [if_neg (fun e => h e.1)]
theorem find_ge (r : Rt) : -1 ≤ findT l r := by unfold findT; split <;> omega

/-! ### put -/
def insE (l : List Nd) (r p : Rt) (s : UInt64) : Nat :=
  if ¬ MayT l then 1 else if 0 ≤ findT l r then 4 else if findT l p < 0 then 5 else if s.toNat ≤ sl l (findT l p).toNat ∨ 1099511627776 < s.toNat then 6 else if l.length = 12 then 3 else 0
def insN (l : List Nd) (r p : Rt) (s j : UInt64) : Nd := ⟨r, findT l p, s, j⟩
def insL (l : List Nd) (r p : Rt) (s j : UInt64) : List Nd := if insE l r p s = 0 then l ++ [insN l r p s j] else l
theorem insE_zero {r p : Rt} {s : UInt64} (h : insE l r p s = 0) : MayT l ∧ findT l r = -1 ∧ (∃ q : Nat, findT l p = q ∧ q < l.length ∧ (nd l q).root = p ∧ sl l q < s.toNat) ∧ s.toNat ≤ 1099511627776 ∧ l.length < 12 := by
  unfold insE at h
  split at h
  · cases h
  · rename_i hm
    have hm : MayT l := Classical.not_not.1 hm
    split at h
    · cases h
    · split at h
      · cases h
      · split at h
        · cases h
        · split at h
          · cases h
          · rename_i h1 h2 h3 h4
            rcases find_spec hm p with ⟨q, hq, e, hr⟩ | ⟨e, _⟩
            · refine ⟨hm, ?_, ⟨q, e, hq, hr, ?_⟩, by omega, by have := hm.le; omega⟩
              · have := find_ge (l := l) r; omega
              · rw [e] at h3
                have : (q : Int).toNat = q := by omega
                rw [this] at h3
                omega
            · omega
theorem may_snoc (h : MayT l) {x : Nd} (hl : l.length < 12) (hs : x.slot.toNat ≤ 1099511627776) {q : Nat} (hq : q < l.length) (hp : x.parent = q) (hsl : sl l q < x.slot.toNat) (hr : ∀ i, i < l.length → (nd l i).root ≠ x.root) : MayT (l ++ [x]) := by
  refine ⟨by simp, by simp; omega, fun i hi => ?_⟩
  simp at hi
  by_cases e : i < l.length
  · obtain ⟨h1, h2, h3, h4⟩ := h.2.2 i e
    refine ⟨?_, ?_, fun h0 => ?_, fun k hk => ?_⟩
    · unfold sl; rw [nd_snoc x e]; exact h1
    · rw [nd_snoc x e]; exact h2
    · obtain ⟨a, b, c⟩ := h3 h0
      unfold up sl at *
      rw [nd_snoc x e]
      refine ⟨a, b, ?_⟩
      rw [nd_snoc x (show (nd l i).parent.toNat < l.length by omega)]
      exact c
    · rw [nd_snoc x e, nd_snoc x (by omega)]; exact h4 k hk
  · obtain rfl : i = l.length := by omega
    refine ⟨?_, fun h0 => ?_, fun _ => ?_, fun k hk => ?_⟩
    · unfold sl; rw [nd_last]; exact hs
    · have := h.pos; omega
    · unfold up sl
      rw [nd_last, hp]
      refine ⟨by omega, by omega, ?_⟩
      rw [show (q : Int).toNat = q by omega, nd_snoc x hq]
      exact hsl
    · rw [nd_last, nd_snoc x hk]; exact hr k hk
theorem ins_may {r p : Rt} {s : UInt64} (j : UInt64) (h : insE l r p s = 0) : MayT (l ++ [insN l r p s j]) := by
  obtain ⟨hm, hr, ⟨q, e, hq, _, hsl⟩, hs, hl⟩ := insE_zero h
  refine may_snoc hm hl hs hq e hsl fun i hi he => ?_
  have := find_at hm hi
  rw [he] at this
  have : findT l r = i := this
  omega
theorem ins_keeps (h : MayT l) (r p : Rt) (s j : UInt64) : MayT (insL l r p s j) := by
  unfold insL
  split
  · rename_i he; exact ins_may j he
  · exact h
theorem ins_again {r p : Rt} {s : UInt64} (j : UInt64) (h : insE l r p s = 0) : insE (l ++ [insN l r p s j]) r p s = 4 ∧ findT (l ++ [insN l r p s j]) r = l.length := by
  have hm := ins_may j h
  have hf : findT (l ++ [insN l r p s j]) r = l.length := by
    have := find_at hm (i := l.length) (by simp)
    rw [nd_last] at this
    exact this
  refine ⟨?_, hf⟩
  unfold insE
  rw [if_neg (Classical.not_not.2 hm), if_pos (by rw [hf]; omega)]

/-! ### who is above whom, behind what is put -/
theorem up_snoc (x : Nd) {i : Nat} (h : i < l.length) : up (l ++ [x]) i = up l i := by unfold up; rw [nd_snoc x h]
theorem above_snoc {x : Nd} (h : MayT l) (h' : MayT (l ++ [x])) (i : Nat) : ∀ k, k < l.length → aboveT (l ++ [x]) i k = aboveT l i k := by
  intro k
  induction k using Nat.strongRecOn with
  | _ k ih =>
    intro hk
    by_cases h0 : k = 0
    · subst h0; rw [above_zero, above_zero]
    · obtain ⟨_, hu, _⟩ := h.par (Nat.pos_of_ne_zero h0) hk
      rw [above_up h' i (Nat.pos_of_ne_zero h0) (by simp; omega), above_up h i (Nat.pos_of_ne_zero h0) hk, up_snoc x hk, ih _ hu (by omega)]
theorem above_last {x : Nd} (h : MayT l) (h' : MayT (l ++ [x])) (i : Nat) : aboveT (l ++ [x]) i l.length = true ↔ i = l.length ∨ aboveT l i x.parent.toNat = true := by
  have hp := h.pos
  rw [above_iff h' i hp (by simp)]
  have e : up (l ++ [x]) l.length = x.parent.toNat := by unfold up; rw [nd_last]
  have hu := (h'.par hp (by simp : l.length < (l ++ [x]).length)).2.1
  rw [e] at hu
  rw [e, above_snoc h h' i _ hu]
theorem last_not_above {x : Nd} (h' : MayT (l ++ [x])) {i : Nat} (hi : i < l.length) : aboveT (l ++ [x]) l.length i = false := by
  rw [← Bool.not_eq_true]
  intro e
  have := above_le h' _ i (by simp; omega) e
  omega

/-! ### children -/
def kidsT (l : List Nd) (i : Nat) : List Nat := (List.range l.length).filter fun k => decide ((nd l k).parent = (i : Int))
theorem mem_kids {i k : Nat} : k ∈ kidsT l i ↔ k < l.length ∧ (nd l k).parent = (i : Int) := by
  unfold kidsT; rw [List.mem_filter, List.mem_range, decide_eq_true_iff]
theorem kids_pos (h : MayT l) {i k : Nat} (hk : k ∈ kidsT l i) : i < k ∧ sl l i < sl l k ∧ up l k = i := by
  obtain ⟨h1, h2⟩ := mem_kids.1 hk
  by_cases h0 : k = 0
  · subst h0; rw [h.first] at h2; omega
  · obtain ⟨e, hu, hs⟩ := h.par (Nat.pos_of_ne_zero h0) h1
    have : up l k = i := by omega
    rw [this] at hu hs
    exact ⟨hu, hs, this⟩
theorem kids_last {x : Nd} (h' : MayT (l ++ [x])) : kidsT (l ++ [x]) l.length = [] := by
  rw [List.eq_nil_iff_forall_not_mem]
  intro k hk
  have h1 := (mem_kids.1 hk).1
  have h2 := (kids_pos h' hk).1
  simp at h1
  omega
/-- Children rise. -/
theorem range_filter_rises (p : Nat → Bool) (n : Nat) : ((List.range n).filter p).Pairwise (· < ·) :=
  List.Pairwise.filter _ List.pairwise_lt_range
end
end Go.Proofs.Ytccihllcohnnnaa
namespace Go.Proofs.Ytccihllcohnnnaa
set_option maxRecDepth 100000

/-! ### those of a range that are kept, and their places -/
section
variable (p : Nat → Bool)
def rankP (k : Nat) : Nat := ((List.range k).filter p).length
theorem range_split {k n : Nat} (h : k ≤ n) : List.range n = List.range k ++ List.range' k (n - k) := by
  have e : n = k + (n - k) := by omega
  have := List.range'_append_1 (s := 0) (m := k) (n := n - k)
  rw [Nat.zero_add, ← e] at this
  rw [List.range_eq_range', List.range_eq_range', this]
theorem rank_get {k n : Nat} (h : k < n) (hp : p k = true) : ((List.range n).filter p)[rankP p k]? = some k := by
  unfold rankP
  rw [range_split (Nat.le_of_lt h), List.filter_append, List.getElem?_append_right (Nat.le_refl _), Nat.sub_self]
  rw [show n - k = (n - k - 1) + 1 by omega, List.range'_succ, List.filter_cons, if_pos hp]
  rfl
theorem rank_lt {k n : Nat} (h : k < n) (hp : p k = true) : rankP p k < ((List.range n).filter p).length := (List.getElem?_eq_some_iff.1 (rank_get p h hp)).1
theorem rank_mono {a b : Nat} (h : a < b) (hp : p a = true) : rankP p a < rankP p b := rank_lt p h hp
theorem rank_inj {a b : Nat} (ha : p a = true) (hb : p b = true) (e : rankP p a = rankP p b) : a = b := by
  rcases Nat.lt_trichotomy a b with h | h | h
  · have := rank_mono p h ha; omega
  · exact h
  · have := rank_mono p h hb; omega
theorem rank_all {n m : Nat} (h : m < ((List.range n).filter p).length) : ∃ k, k < n ∧ p k = true ∧ rankP p k = m := by
  have hk : ((List.range n).filter p)[m] ∈ (List.range n).filter p := List.getElem_mem h
  rw [List.mem_filter, List.mem_range] at hk
  refine ⟨_, hk.1, hk.2, ?_⟩
  have h1 := rank_get p hk.1 hk.2
  obtain ⟨h2, h3⟩ := List.getElem?_eq_some_iff.1 h1
  have hr := List.pairwise_iff_getElem.1 (List.Pairwise.filter p (List.pairwise_lt_range (n := n)))
  rcases Nat.lt_trichotomy (rankP p ((List.range n).filter p)[m]) m with h4 | h4 | h4
  · have := hr _ _ h2 h h4; omega
  · exact h4
  · have := hr _ _ h h2 h4; omega
theorem rank_zero {i : Nat} (h : ∀ k, p k = true → i ≤ k) : rankP p i = 0 := by
  unfold rankP
  rw [List.length_eq_zero_iff, List.filter_eq_nil_iff]
  intro a ha e
  have := h a e
  rw [List.mem_range] at ha
  omega
theorem rank_succ (k : Nat) : rankP p (k + 1) = rankP p k + if p k = true then 1 else 0 := by
  unfold rankP
  rw [List.range_succ, List.filter_append, List.length_append]
  congr 1
  by_cases h : p k = true
  · simp [h]
  · simp [h]
end

/-! ### the tree cut -/
/-- Those that descend from i, in their tree. -/
def keptB (l : List Nd) (i k : Nat) : Bool := decide (k < l.length) && aboveT l i k
def rankT (l : List Nd) (i k : Nat) : Nat := rankP (keptB l i) k
def cutN (l : List Nd) (i k : Nat) : Nd := { nd l k with parent := if k = i then -1 else (rankT l i (up l k) : Int) }
def keptT (l : List Nd) (i : Nat) : List Nat := (List.range l.length).filter (keptB l i)
def cutL (l : List Nd) (i : Nat) : List Nd := (keptT l i).map (cutN l i)
section
variable {l : List Nd}
theorem kept_iff {i k : Nat} : keptB l i k = true ↔ k < l.length ∧ aboveT l i k = true := by
  unfold keptB; rw [Bool.and_eq_true, decide_eq_true_iff]
theorem kept_self (h : MayT l) {i : Nat} (hi : i < l.length) : keptB l i i = true := kept_iff.2 ⟨hi, above_refl h hi⟩
theorem kept_le (h : MayT l) {i k : Nat} (hk : keptB l i k = true) : i ≤ k := above_le h i k (kept_iff.1 hk).1 (kept_iff.1 hk).2
theorem rank_first (h : MayT l) (i : Nat) : rankT l i i = 0 := rank_zero _ fun _ hk => kept_le h hk
theorem cut_len {i : Nat} : (cutL l i).length = (keptT l i).length := by unfold cutL; rw [List.length_map]
theorem rank_in {i k : Nat} (hk : keptB l i k = true) : rankT l i k < (cutL l i).length := by
  rw [cut_len]; exact rank_lt _ (kept_iff.1 hk).1 hk
theorem cut_nd {i k : Nat} (hk : keptB l i k = true) : nd (cutL l i) (rankT l i k) = cutN l i k := by
  unfold nd cutL
  rw [List.getD_eq_getElem?_getD, List.getElem?_map]
  have := rank_get (keptB l i) (kept_iff.1 hk).1 hk
  unfold keptT rankT
  rw [this]
  rfl
theorem cut_all {i m : Nat} (hm : m < (cutL l i).length) : ∃ k, keptB l i k = true ∧ rankT l i k = m := by
  rw [cut_len] at hm
  obtain ⟨k, _, hk, e⟩ := rank_all _ hm
  exact ⟨k, hk, e⟩
theorem cut_sl {i k : Nat} (hk : keptB l i k = true) : sl (cutL l i) (rankT l i k) = sl l k := by unfold sl; rw [cut_nd hk]; rfl
theorem cut_root {i k : Nat} (hk : keptB l i k = true) : (nd (cutL l i) (rankT l i k)).root = (nd l k).root := by rw [cut_nd hk]; rfl
theorem kept_up (h : MayT l) {i k : Nat} (hk : keptB l i k = true) (hne : k ≠ i) : 0 < k ∧ keptB l i (up l k) = true ∧ up l k < k ∧ sl l (up l k) < sl l k := by
  obtain ⟨h1, h2⟩ := kept_iff.1 hk
  have h0 : 0 < k := by
    rcases Nat.eq_zero_or_pos k with e | e
    · subst e; rw [above_zero, decide_eq_true_iff] at h2; omega
    · exact e
  obtain ⟨_, hu, hs⟩ := h.par h0 h1
  rcases (above_iff h i h0 h1).1 h2 with e | e
  · omega
  · exact ⟨h0, kept_iff.2 ⟨by omega, e⟩, hu, hs⟩
theorem cut_up (h : MayT l) {i k : Nat} (hk : keptB l i k = true) (hne : k ≠ i) : up (cutL l i) (rankT l i k) = rankT l i (up l k) := by
  have _ := h
  unfold up
  rw [cut_nd hk]
  show (if k = i then (-1 : Int) else (rankT l i (up l k) : Int)).toNat = _
  rw [if_neg hne]
  show ((rankT l i (up l k) : Nat) : Int).toNat = rankT l i (up l k)
  omega
theorem cut_may (h : MayT l) {i : Nat} (hi : i < l.length) : MayT (cutL l i) := by
  have hs := kept_self h hi
  refine ⟨?_, ?_, fun m hm => ?_⟩
  · have := rank_in hs; omega
  · rw [cut_len]
    have : (keptT l i).length ≤ (List.range l.length).length := List.length_filter_le _ _
    rw [List.length_range] at this
    have := h.le
    omega
  · obtain ⟨k, hk, rfl⟩ := cut_all hm
    have hkl := (kept_iff.1 hk).1
    refine ⟨by rw [cut_sl hk]; exact h.slot hkl, fun h0 => ?_, fun h0 => ?_, fun m' hm' => ?_⟩
    · have : k = i := rank_inj _ hk hs (h0.trans (rank_first h i).symm)
      rw [cut_nd hk]
      unfold cutN
      rw [if_pos this]
    · have hne : k ≠ i := fun e => by subst e; rw [rank_first h k] at h0; omega
      obtain ⟨_, hu, hlt, hsl⟩ := kept_up h hk hne
      have e : (nd (cutL l i) (rankT l i k)).parent = (rankT l i (up l k) : Int) := by
        rw [cut_nd hk]; unfold cutN; rw [if_neg hne]
      refine ⟨by rw [e]; omega, ?_, ?_⟩
      · rw [e]
        have := rank_mono (keptB l i) hlt hu
        unfold rankT
        omega
      · rw [cut_up h hk hne, cut_sl hu, cut_sl hk]; exact hsl
    · obtain ⟨k', hk', rfl⟩ := cut_all (show m' < (cutL l i).length by omega)
      rw [cut_root hk, cut_root hk']
      intro e
      have := h.roots (kept_iff.1 hk').1 hkl e
      subst this
      omega
theorem cut_find (h : MayT l) {i a : Nat} (hi : i < l.length) (ha : a < l.length) : findT (cutL l i) (nd l a).root = if aboveT l i a = true then (rankT l i a : Int) else -1 := by
  have hc := cut_may h hi
  by_cases hab : aboveT l i a = true
  · have hk : keptB l i a = true := kept_iff.2 ⟨ha, hab⟩
    rw [if_pos hab, ← cut_root hk]
    exact find_at hc (rank_in hk)
  · rw [if_neg hab]
    rcases find_spec hc (nd l a).root with ⟨m, hm, _, hr⟩ | ⟨e, _⟩
    · obtain ⟨k, hk, rfl⟩ := cut_all hm
      rw [cut_root hk] at hr
      have := h.roots (kept_iff.1 hk).1 ha hr
      subst this
      exact absurd (kept_iff.1 hk).2 hab
    · exact e
theorem cut_first (h : MayT l) {i : Nat} (hi : i < l.length) : (nd (cutL l i) 0).root = (nd l i).root := by
  have := cut_root (kept_self h hi)
  rwa [rank_first h i] at this
theorem cut_above (h : MayT l) {i a : Nat} (hi : i < l.length) (ha : keptB l i a = true) : ∀ b, keptB l i b = true → aboveT (cutL l i) (rankT l i a) (rankT l i b) = aboveT l a b := by
  have hc := cut_may h hi
  intro b
  induction b using Nat.strongRecOn with
  | _ b ih =>
    intro hb
    have hbl := (kept_iff.1 hb).1
    by_cases hbi : b = i
    · subst hbi
      rw [rank_first h b, above_zero, Bool.eq_iff_iff, decide_eq_true_iff]
      constructor
      · intro e
        have : a = b := rank_inj _ ha hb (e.trans (rank_first h b).symm)
        subst this
        exact above_refl h hbl
      · intro e
        have h1 := above_le h a b hbl e
        have h2 := kept_le h ha
        have : a = b := by omega
        subst this
        exact rank_first h a
    · obtain ⟨h0, hu, hlt, _⟩ := kept_up h hb hbi
      have hr0 : 0 < rankT l i b := by
        have := rank_mono (keptB l i) (show i < b by have := kept_le h hb; omega) (kept_self h hi)
        unfold rankT; omega
      rw [Bool.eq_iff_iff, above_iff hc _ hr0 (rank_in hb), above_iff h a h0 hbl, cut_up h hb hbi, ih _ hlt hu]
      constructor
      · rintro (e | e)
        · exact .inl (rank_inj _ ha hb e)
        · exact .inr e
      · rintro (e | e)
        · subst e; exact .inl rfl
        · exact .inr e
theorem at_self (h : MayT l) {i s : Nat} (hi : i < l.length) (hs : sl l i ≤ s) : atT l i s = i := by
  by_cases h0 : i = 0
  · subst h0; rw [at_zero, if_pos hs]; rfl
  · rw [at_up h s (Nat.pos_of_ne_zero h0) hi, if_pos hs]
theorem cut_at (h : MayT l) {i : Nat} (hi : i < l.length) (s : Nat) : ∀ a, keptB l i a = true → atT (cutL l i) (rankT l i a) s = if sl l i ≤ s then (rankT l i (atT l a s).toNat : Int) else -1 := by
  have hc := cut_may h hi
  intro a
  induction a using Nat.strongRecOn with
  | _ a ih =>
    intro ha
    have hal := (kept_iff.1 ha).1
    by_cases hai : a = i
    · subst hai
      rw [rank_first h a, at_zero]
      have e : sl (cutL l a) 0 = sl l a := by have := cut_sl ha; rwa [rank_first h a] at this
      rw [e]
      by_cases hs : sl l a ≤ s
      · rw [if_pos hs, if_pos hs, at_self h hal hs]
        have : ((a : Int)).toNat = a := by omega
        rw [this, rank_first h a]; rfl
      · rw [if_neg hs, if_neg hs]
    · obtain ⟨h0, hu, hlt, _⟩ := kept_up h ha hai
      have hr0 : 0 < rankT l i a := by
        have := rank_mono (keptB l i) (show i < a by have := kept_le h ha; omega) (kept_self h hi)
        unfold rankT; omega
      rw [at_up hc s hr0 (rank_in ha), cut_sl ha, cut_up h ha hai, ih _ hlt hu, at_up h s h0 hal]
      by_cases hs : sl l a ≤ s
      · rw [if_pos hs, if_pos hs]
        have := above_slot h a hal (kept_iff.1 ha).2
        rw [if_pos (by omega)]
        have : ((a : Int)).toNat = a := by omega
        rw [this]
      · rw [if_neg hs, if_neg hs]
/-- The ancestor at a slot from the cut's own on is kept. -/
theorem at_kept (h : MayT l) {i a s : Nat} (ha : keptB l i a = true) (hs : sl l i ≤ s) : ∃ q : Nat, atT l a s = q ∧ keptB l i q = true := by
  obtain ⟨hal, hia⟩ := kept_iff.1 ha
  rcases at_spec h s a hal with ⟨_, hn⟩ | ⟨q, e, hq, _, _, hall⟩
  · have := hn i hia; omega
  · exact ⟨q, e, kept_iff.2 ⟨hq, hall i hia hs⟩⟩
end
end Go.Proofs.Ytccihllcohnnnaa
