/-
  Trees, plainly: what is cut.
  Trees, plainly: the functions at whatever places; what the laws of layer 6 want of them.
-/
import Derived.Test.YtlhnjaeocoafnaaQ03
namespace Go.Proofs.Ytlhnjaeocoafnaa
set_option maxRecDepth 100000

/-! ### those of a range that are kept, and their places -/
section
variable (p : Nat → Bool)
def rankP (k : Nat) : Nat := ((List.range k).filter p).length
theorem range_split {k n : Nat} (h : k ≤ n) : List.range n = List.range k ++ List.range' k (n - k) := by
  have e : n = k + (n - k) := by omega
  have := List.range'_append_1 (s := 0) (m := k) (n := n - k)
  rw [Nat.zero_add, ← e] at this
  rw [List.range_eq_range', List.range_eq_range', this]
theorem rank_get {k n : Nat} (h : k < n) (hp : p k = true) : ((List.range n).filter p)[rankP p k]? = some k := by
  unfold rankP
  rw [range_split (Nat.le_of_lt h), List.filter_append, List.getElem?_append_right (Nat.le_refl _), Nat.sub_self]
  rw [show n - k = (n - k - 1) + 1 by omega, List.range'_succ, List.filter_cons, if_pos hp]
  rfl
theorem rank_lt {k n : Nat} (h : k < n) (hp : p k = true) : rankP p k < ((List.range n).filter p).length := (List.getElem?_eq_some_iff.1 (rank_get p h hp)).1
theorem rank_mono {a b : Nat} (h : a < b) (hp : p a = true) : rankP p a < rankP p b := rank_lt p h hp
theorem rank_inj {a b : Nat} (ha : p a = true) (hb : p b = true) (e : rankP p a = rankP p b) : a = b := by
  rcases Nat.lt_trichotomy a b with h | h | h
  · have := rank_mono p h ha; omega
  · exact h
  · have := rank_mono p h hb; omega
theorem rank_all {n m : Nat} (h : m < ((List.range n).filter p).length) : ∃ k, k < n ∧ p k = true ∧ rankP p k = m := by
  have hk : ((List.range n).filter p)[m] ∈ (List.range n).filter p := List.getElem_mem h
  rw [List.mem_filter, List.mem_range] at hk
  refine ⟨_, hk.1, hk.2, ?_⟩
  have h1 := rank_get p hk.1 hk.2
  obtain ⟨h2, h3⟩ := List.getElem?_eq_some_iff.1 h1
  have hr := List.pairwise_iff_getElem.1 (List.Pairwise.filter p (List.pairwise_lt_range (n := n)))
  rcases Nat.lt_trichotomy (rankP p ((List.range n).filter p)[m]) m with h4 | h4 | h4
  · have := hr _ _ h2 h h4; omega
  · exact h4
  · have := hr _ _ h h2 h4; omega
theorem rank_zero {i : Nat} (h : ∀ k, p k = true → i ≤ k) : rankP p i = 0 := by
  unfold rankP
  rw [List.length_eq_zero_iff, List.filter_eq_nil_iff]
  intro a ha e
  have := h a e
  rw [List.mem_range] at ha
  omega
theorem rank_succ (k : Nat) : rankP p (k + 1) = rankP p k + if p k = true then 1 else 0 := by
  unfold rankP
  rw [List.range_succ, List.filter_append, List.length_append]
  congr 1
  by_cases h : p k = true
  · simp [h]
  · simp [h]
end

/-! ### the tree cut -/
/-- Those that descend from i, in their tree. -/
def keptB (l : List Nd) (i k : Nat) : Bool := decide (k < l.length) && aboveT l i k
def rankT (l : List Nd) (i k : Nat) : Nat := rankP (keptB l i) k
def cutN (l : List Nd) (i k : Nat) : Nd := { nd l k with parent := if k = i then -1 else (rankT l i (up l k) : Int) }
def keptT (l : List Nd) (i : Nat) : List Nat := (List.range l.length).filter (keptB l i)
def cutL (l : List Nd) (i : Nat) : List Nd := (keptT l i).map (cutN l i)
section
variable {l : List Nd}
theorem kept_iff {i k : Nat} : keptB l i k = true ↔ k < l.length ∧ aboveT l i k = true := by
  unfold keptB; rw [Bool.and_eq_true, decide_eq_true_iff]
theorem kept_self (h : MayT l) {i : Nat} (hi : i < l.length) : keptB l i i = true := kept_iff.2 ⟨hi, above_refl h hi⟩
theorem kept_le (h : MayT l) {i k : Nat} (hk : keptB l i k = true) : i ≤ k := above_le h i k (kept_iff.1 hk).1 (kept_iff.1 hk).2
theorem rank_first (h : MayT l) (i : Nat) : rankT l i i = 0 := rank_zero _ fun _ hk => kept_le h hk
theorem cut_len {i : Nat} : (cutL l i).length = (keptT l i).length := by unfold cutL; rw [List.length_map]
theorem rank_in {i k : Nat} (hk : keptB l i k = true) : rankT l i k < (cutL l i).length := by
  rw [cut_len]; exact rank_lt _ (kept_iff.1 hk).1 hk
theorem cut_nd {i k : Nat} (hk : keptB l i k = true) : nd (cutL l i) (rankT l i k) = cutN l i k := by
  unfold nd cutL
  rw [List.getD_eq_getElem?_getD, List.getElem?_map]
  have := rank_get (keptB l i) (kept_iff.1 hk).1 hk
  unfold keptT rankT
  rw [this]
  rfl
theorem cut_all {i m : Nat} (hm : m < (cutL l i).length) : ∃ k, keptB l i k = true ∧ rankT l i k = m := by
  rw [cut_len] at hm
  obtain ⟨k, _, hk, e⟩ := rank_all _ hm
  exact ⟨k, hk, e⟩
theorem cut_sl {i k : Nat} (hk : keptB l i k = true) : sl (cutL l i) (rankT l i k) = sl l k := by unfold sl; rw [cut_nd hk]; rfl
theorem cut_root {i k : Nat} (hk : keptB l i k = true) : (nd (cutL l i) (rankT l i k)).root = (nd l k).root := by rw [cut_nd hk]; rfl
theorem kept_up (h : MayT l) {i k : Nat} (hk : keptB l i k = true) (hne : k ≠ i) : 0 < k ∧ keptB l i (up l k) = true ∧ up l k < k ∧ sl l (up l k) < sl l k := by
  obtain ⟨h1, h2⟩ := kept_iff.1 hk
  have h0 : 0 < k := by
    rcases Nat.eq_zero_or_pos k with e | e
    · subst e; rw [above_zero, decide_eq_true_iff] at h2; omega
    · exact e
  obtain ⟨_, hu, hs⟩ := h.par h0 h1
  rcases (above_iff h i h0 h1).1 h2 with e | e
  · omega
  · exact ⟨h0, kept_iff.2 ⟨by omega, e⟩, hu, hs⟩
theorem cut_up (h : MayT l) {i k : Nat} (hk : keptB l i k = true) (hne : k ≠ i) : up (cutL l i) (rankT l i k) = rankT l i (up l k) := by
  have _ := h
  unfold up
  rw [cut_nd hk]
  show (if k = i then (-1 : Int) else (rankT l i (up l k) : Int)).toNat = _
  rw [if_neg hne]
  show ((rankT l i (up l k) : Nat) : Int).toNat = rankT l i (up l k)
  omega
theorem cut_may (h : MayT l) {i : Nat} (hi : i < l.length) : MayT (cutL l i) := by
  have hs := kept_self h hi
  refine ⟨?_, ?_, fun m hm => ?_⟩
  · have := rank_in hs; omega
  · rw [cut_len]
    have : (keptT l i).length ≤ (List.range l.length).length := List.length_filter_le _ _
    rw [List.length_range] at this
    have := h.le
    omega
  · obtain ⟨k, hk, rfl⟩ := cut_all hm
    have hkl := (kept_iff.1 hk).1
    refine ⟨by rw [cut_sl hk]; exact h.slot hkl, fun h0 => ?_, fun h0 => ?_, fun m' hm' => ?_⟩
    · have : k = i := rank_inj _ hk hs (h0.trans (rank_first h i).symm)
      rw [cut_nd hk]
      unfold cutN
      rw [if_pos this]
    · have hne : k ≠ i := fun e => by subst e; rw [rank_first h k] at h0; omega
      obtain ⟨_, hu, hlt, hsl⟩ := kept_up h hk hne
      have e : (nd (cutL l i) (rankT l i k)).parent = (rankT l i (up l k) : Int) := by
        rw [cut_nd hk]; unfold cutN; rw [if_neg hne]
      refine ⟨by rw [e]; omega, ?_, ?_⟩
      · rw [e]
        have := rank_mono (keptB l i) hlt hu
        unfold rankT
        omega
      · rw [cut_up h hk hne, cut_sl hu, cut_sl hk]; exact hsl
    · obtain ⟨k', hk', rfl⟩ := cut_all (show m' < (cutL l i).length by omega)
      rw [cut_root hk, cut_root hk']
      intro e
      have := h.roots (kept_iff.1 hk').1 hkl e
      subst this
      omega
theorem cut_find (h : MayT l) {i a : Nat} (hi : i < l.length) (ha : a < l.length) : findT (cutL l i) (nd l a).root = if aboveT l i a = true then (rankT l i a : Int) else -1 := by
  have hc := cut_may h hi
  by_cases hab : aboveT l i a = true
  · have hk : keptB l i a = true := kept_iff.2 ⟨ha, hab⟩
    rw [if_pos hab, ← cut_root hk]
    exact find_at hc (rank_in hk)
  · rw [if_neg hab]
    rcases find_spec hc (nd l a).root with ⟨m, hm, _, hr⟩ | ⟨e, _⟩
    · obtain ⟨k, hk, rfl⟩ := cut_all hm
      rw [cut_root hk] at hr
      have := h.roots (kept_iff.1 hk).1 ha hr
      subst this
      exact absurd (kept_iff.1 hk).2 hab
    · exact e
theorem cut_first (h : MayT l) {i : Nat} (hi : i < l.length) : (nd (cutL l i) 0).root = (nd l i).root := by
  have := cut_root (kept_self h hi)
  rwa [rank_first h i] at this
theorem cut_above (h : MayT l) {i a : Nat} (hi : i < l.length) (ha : keptB l i a = true) : ∀ b, keptB l i b = true → aboveT (cutL l i) (rankT l i a) (rankT l i b) = aboveT l a b := by
  have hc := cut_may h hi
  intro b
  induction b using Nat.strongRecOn with
  | _ b ih =>
    intro hb
    have hbl := (kept_iff.1 hb).1
    by_cases hbi : b = i
    · subst hbi
      rw [rank_first h b, above_zero, Bool.eq_iff_iff, decide_eq_true_iff]
      constructor
      · intro e
        have : a = b := rank_inj _ ha hb (e.trans (rank_first h b).symm)
        subst this
        exact above_refl h hbl
      · intro e
        have h1 := above_le h a b hbl e
        have h2 := kept_le h ha
        have : a = b := by omega
        subst this
        exact rank_first h a
    · obtain ⟨h0, hu, hlt, _⟩ := kept_up h hb hbi
      have hr0 : 0 < rankT l i b := by
        have := rank_mono (keptB l i) (show i < b by have := kept_le h hb; omega) (kept_self h hi)
        unfold rankT; omega
      rw [Bool.eq_iff_iff, above_iff hc _ hr0 (rank_in hb), above_iff h a h0 hbl, cut_up h hb hbi, ih _ hlt hu]
      constructor
      · rintro (e | e)
        · exact .inl (rank_inj _ ha hb e)
        · exact .inr e
      · rintro (e | e)
        · subst e; exact .inl rfl
        · exact .inr e
theorem at_self (h : MayT l) {i s : Nat} (hi : i < l.length) (hs : sl l i ≤ s) : atT l i s = i := by
  by_cases h0 : i = 0
  · subst h0; rw [at_zero, if_pos hs]; rfl
  · rw [at_up h s (Nat.pos_of_ne_zero h0) hi, if_pos hs]
theorem cut_at (h : MayT l) {i : Nat} (hi : i < l.length) (s : Nat) : ∀ a, keptB l i a = true → atT (cutL l i) (rankT l i a) s = if sl l i ≤ s then (rankT l i (atT l a s).toNat : Int) else -1 := by
  have hc := cut_may h hi
  intro a
  induction a using Nat.strongRecOn with
  | _ a ih =>
    intro ha
    have hal := (kept_iff.1 ha).1
    by_cases hai : a = i
    · subst hai
      rw [rank_first h a, at_zero]
      have e : sl (cutL l a) 0 = sl l a := by have := cut_sl ha; rwa [rank_first h a] at this
      rw [e]
      by_cases hs : sl l a ≤ s
      · rw [if_pos hs, if_pos hs, at_self h hal hs]
        have : ((a : Int)).toNat = a := by omega
        rw [this, rank_first h a]; rfl
      · rw [if_neg hs, if_neg hs]
    · obtain ⟨h0, hu, hlt, _⟩ := kept_up h ha hai
      have hr0 : 0 < rankT l i a := by
        have := rank_mono (keptB l i) (show i < a by have := kept_le h ha; omega) (kept_self h hi)
        unfold rankT; omega
      rw [at_up hc s hr0 (rank_in ha), cut_sl ha, cut_up h ha hai, ih _ hlt hu, at_up h s h0 hal]
      by_cases hs : sl l a ≤ s
      · rw [if_pos hs, if_pos hs]
        have := above_slot h a hal (kept_iff.1 ha).2
        rw [if_pos (by omega)]
        have : ((a : Int)).toNat = a := by omega
        rw [this]
      · rw [if_neg hs, if_neg hs]
/-- The ancestor at a slot from the cut's own on is kept. -/
theorem at_kept (h : MayT l) {i a s : Nat} (ha : keptB l i a = true) (hs : sl l i ≤ s) : ∃ q : Nat, atT l a s = q ∧ keptB l i q = true := by
  obtain ⟨hal, hia⟩ := kept_iff.1 ha
  rcases at_spec h s a hal with ⟨_, hn⟩ | ⟨q, e, hq, _, _, hall⟩
  · have := hn i hia; omega
  · exact ⟨q, e, kept_iff.2 ⟨hq, hall i hia hs⟩⟩
end
end Go.Proofs.Ytlhnjaeocoafnaa
namespace Go.Proofs.Ytlhnjaeocoafnaa
set_option maxRecDepth 100000

def isT (l : List Nd) (i : Int) : Bool := decide (MayT l) && (decide (0 ≤ i) && decide (i < l.length))
def aboveZ (l : List Nd) (i k : Int) : Bool := (isT l i && isT l k) && aboveT l i.toNat k.toNat
def atZ (l : List Nd) (i : Int) (s : Nat) : Int := if isT l i = true then atT l i.toNat s else -1
def kidsZ (l : List Nd) (i : Int) : List Nat := if isT l i = true then kidsT l i.toNat else []
def cutZ (l : List Nd) (i : Int) : List Nd := if isT l i = true then cutL l i.toNat else []
section
variable {l : List Nd}
theorem isT_iff {i : Int} : isT l i = true ↔ MayT l ∧ 0 ≤ i ∧ i < l.length := by
  unfold isT
  rw [Bool.and_eq_true, Bool.and_eq_true, decide_eq_true_iff, decide_eq_true_iff, decide_eq_true_iff]
theorem isT_nat (h : MayT l) {i : Nat} (hi : i < l.length) : isT l (i : Int) = true := isT_iff.2 ⟨h, by omega, by omega⟩
theorem aboveZ_nat (h : MayT l) {i k : Nat} (hi : i < l.length) (hk : k < l.length) : aboveZ l (i : Int) (k : Int) = aboveT l i k := by
  unfold aboveZ
  rw [isT_nat h hi, isT_nat h hk]
  simp
theorem atZ_nat (h : MayT l) {i : Nat} (hi : i < l.length) (s : Nat) : atZ l (i : Int) s = atT l i s := by
  unfold atZ
  rw [if_pos (isT_nat h hi)]
  simp
theorem kidsZ_nat (h : MayT l) {i : Nat} (hi : i < l.length) : kidsZ l (i : Int) = kidsT l i := by
  unfold kidsZ
  rw [if_pos (isT_nat h hi)]
  simp
theorem cutZ_nat (h : MayT l) {i : Nat} (hi : i < l.length) : cutZ l (i : Int) = cutL l i := by
  unfold cutZ
  rw [if_pos (isT_nat h hi)]
  simp

/-! ### TreeAbove -/
theorem above_antisymm (h : MayT l) {a b : Nat} (ha : a < l.length) (hb : b < l.length) (h1 : aboveT l a b = true) (h2 : aboveT l b a = true) : a = b := by
  have := above_le h a b hb h1
  have := above_le h b a ha h2
  omega
theorem law_above (h : MayT l) {a b c : Nat} (ha : a < l.length) (hb : b < l.length) (hc : c < l.length) :
    aboveT l 0 a = true ∧ aboveT l a a = true ∧ (aboveT l a b = true → aboveT l b c = true → aboveT l a c = true) ∧ (aboveT l a b = true → aboveT l b a = true → a = b) ∧ (aboveT l a b = true → aboveT l c b = true → aboveT l a c = false → aboveT l c a = true) :=
  ⟨above_first h a ha, above_refl h ha, fun h1 h2 => above_trans h h1 c hc h2, fun h1 h2 => above_antisymm h ha hb h1 h2, fun h1 h2 h3 => (above_chain h b hb h1 h2).resolve_left (by rw [h3]; exact Bool.false_ne_true)⟩

/-! ### TreeAt -/
theorem law_at (h : MayT l) {i s t : Nat} (hi : i < l.length) (hst : t ≤ s) :
    (atT l i s = -1 ∧ atT l i t = -1 ∧ s < sl l 0) ∨ ∃ a : Nat, atT l i s = a ∧ a < l.length ∧ aboveT l a i = true ∧ sl l a ≤ s ∧ (∀ k, k < l.length → aboveT l k i = true → aboveT l k a = false → s < sl l k) ∧ (atT l i t = -1 ∨ ∃ b : Nat, atT l i t = b ∧ b < l.length ∧ aboveT l b a = true) := by
  rcases at_spec h s i hi with ⟨e, hn⟩ | ⟨a, e, ha, hai, hsa, hall⟩
  · refine .inl ⟨e, ?_, hn 0 (above_first h i hi)⟩
    rcases at_spec h t i hi with ⟨e2, _⟩ | ⟨b, _, _, hbi, hsb, _⟩
    · exact e2
    · have := hn b hbi; omega
  · refine .inr ⟨a, e, ha, hai, hsa, fun k _ hk1 hk2 => ?_, ?_⟩
    · apply Classical.byContradiction
      intro hle
      have := hall k hk1 (by omega)
      rw [hk2] at this
      cases this
    · rcases at_spec h t i hi with ⟨e2, _⟩ | ⟨b, e2, hb, hbi, hsb, _⟩
      · exact .inl e2
      · exact .inr ⟨b, e2, hb, hall b hbi (by omega)⟩

/-! ### TreeCut -/
theorem law_cut (h : MayT l) {i a b s : Nat} (hi : i < l.length) (ha : a < l.length) (hb : b < l.length) :
    MayT (cutL l i) ∧ (nd (cutL l i) 0).root = (nd l i).root ∧
    ((findT (cutL l i) (nd l a).root = -1 ∧ aboveT l i a = false) ∨ ∃ x : Nat, findT (cutL l i) (nd l a).root = x ∧ x < (cutL l i).length ∧ aboveT l i a = true ∧
      (findT (cutL l i) (nd l b).root = -1 ∨ ∃ y : Nat, findT (cutL l i) (nd l b).root = y ∧ y < (cutL l i).length ∧ aboveT (cutL l i) x y = aboveT l a b) ∧
      ((s < sl l i ∧ atT (cutL l i) x s = -1) ∨ (sl l i ≤ s ∧ ∃ p q : Nat, atT (cutL l i) x s = p ∧ atT l a s = q ∧ p < (cutL l i).length ∧ q < l.length ∧ (nd (cutL l i) p).root = (nd l q).root))) := by
  refine ⟨cut_may h hi, cut_first h hi, ?_⟩
  rw [cut_find h hi ha, cut_find h hi hb]
  by_cases hab : aboveT l i a = true
  · rw [if_pos hab]
    have hka : keptB l i a = true := kept_iff.2 ⟨ha, hab⟩
    refine .inr ⟨rankT l i a, rfl, rank_in hka, hab, ?_, ?_⟩
    · by_cases hbb : aboveT l i b = true
      · rw [if_pos hbb]
        have hkb : keptB l i b = true := kept_iff.2 ⟨hb, hbb⟩
        exact .inr ⟨rankT l i b, rfl, rank_in hkb, cut_above h hi hka b hkb⟩
      · rw [if_neg hbb]; exact .inl rfl
    · rw [cut_at h hi s a hka]
      by_cases hs : sl l i ≤ s
      · obtain ⟨q, e, hq⟩ := at_kept h hka hs
        rw [if_pos hs, e]
        have : ((q : Int)).toNat = q := by omega
        rw [this]
        exact .inr ⟨hs, rankT l i q, q, rfl, rfl, rank_in hq, (kept_iff.1 hq).1, cut_root hq⟩
      · rw [if_neg hs]; exact .inl ⟨by omega, rfl⟩
  · rw [if_neg hab]
    exact .inl ⟨rfl, by simpa using hab⟩

/-! ### TreeKids -/
theorem kids_nodup (i : Nat) : (kidsT l i).Nodup := List.Pairwise.filter _ List.nodup_range
theorem kids_count (k i : Nat) : (kidsT l k).count i = if i < l.length ∧ (nd l i).parent = (k : Int) then 1 else 0 := by
  by_cases hm : i ∈ kidsT l k
  · rw [if_pos (mem_kids.1 hm)]
    have h1 := List.nodup_iff_count.1 (kids_nodup (l := l) k) i
    have h2 := List.count_pos_iff.2 hm
    omega
  · rw [if_neg (fun e => hm (mem_kids.2 e))]
    exact List.count_eq_zero.2 hm
/-- How many of the first so many nodes i is a child of. -/
def bornT (l : List Nd) (i k : Nat) : Nat := if 0 < i ∧ up l i < k then 1 else 0
theorem born_succ (h : MayT l) {i k : Nat} (hi : i < l.length) : bornT l i (k + 1) = bornT l i k + (kidsT l k).count i := by
  rw [kids_count]
  unfold bornT
  by_cases h0 : i = 0
  · subst h0
    rw [h.first, if_neg (by omega), if_neg (by omega), if_neg (by omega)]
  · obtain ⟨e, _, _⟩ := h.par (Nat.pos_of_ne_zero h0) hi
    rw [e]
    by_cases h1 : up l i < k
    · rw [if_pos (by omega), if_pos (by omega), if_neg (by omega)]
    · by_cases h2 : up l i = k
      · rw [if_pos (by omega), if_neg (by omega), if_pos (by omega)]
      · rw [if_neg (by omega), if_neg (by omega), if_neg (by omega)]
theorem born_zero (i : Nat) : bornT l i 0 = 0 := by unfold bornT; rw [if_neg (by omega)]
theorem born_all (h : MayT l) {i : Nat} (hi : i < l.length) : bornT l i l.length = if 0 < i then 1 else 0 := by
  unfold bornT
  by_cases h0 : 0 < i
  · obtain ⟨_, hu, _⟩ := h.par h0 hi
    rw [if_pos (by omega), if_pos h0]
  · rw [if_neg (by omega), if_neg h0]

/-! ### TreeLast -/
theorem law_last {r p : Rt} {s : UInt64} (j : UInt64) (he : insE l r p s = 0) {i k : Nat} (hi : i < l.length) (hk : k < l.length) :
    ∃ q : Nat, findT l p = q ∧ q < l.length ∧ kidsT (l ++ [insN l r p s j]) l.length = [] ∧ aboveT (l ++ [insN l r p s j]) i l.length = aboveT l i q ∧ aboveT (l ++ [insN l r p s j]) i k = aboveT l i k ∧ aboveT (l ++ [insN l r p s j]) l.length i = false ∧ atT (l ++ [insN l r p s j]) l.length s.toNat = l.length := by
  obtain ⟨hm, _, ⟨q, e, hq, _, _⟩, _, _⟩ := insE_zero he
  have hm' := ins_may j he
  have hp : (insN l r p s j).parent.toNat = q := by
    show (findT l p).toNat = q
    rw [e]; omega
  refine ⟨q, e, hq, kids_last hm', ?_, above_snoc hm hm' i k hk, last_not_above hm' hi, ?_⟩
  · rw [Bool.eq_iff_iff, above_last hm hm', hp]
    exact ⟨fun h => h.resolve_left (by omega), .inr⟩
  · refine at_self hm' (by simp) ?_
    unfold sl
    rw [nd_last]
    exact Nat.le_refl _
end
end Go.Proofs.Ytlhnjaeocoafnaa
