/-
  Trees, plainly: the functions at whatever places; what the laws of layer 6 want of them.
-/
import Derived.Test.YtonfmddjlhgglaaTreeC
namespace Go.Proofs.Ytonfmddjlhgglaa

def isT (l : List Nd) (i : Int) : Bool := decide (MayT l) && (decide (0 ≤ i) && decide (i < l.length))
def aboveZ (l : List Nd) (i k : Int) : Bool := (isT l i && isT l k) && aboveT l i.toNat k.toNat
def atZ (l : List Nd) (i : Int) (s : Nat) : Int := if isT l i = true then atT l i.toNat s else -1
def kidsZ (l : List Nd) (i : Int) : List Nat := if isT l i = true then kidsT l i.toNat else []
def cutZ (l : List Nd) (i : Int) : List Nd := if isT l i = true then cutL l i.toNat else []
section
variable {l : List Nd}
theorem isT_iff {i : Int} : isT l i = true ↔ MayT l ∧ 0 ≤ i ∧ i < l.length := by
  unfold isT
  rw [Bool.and_eq_true, Bool.and_eq_true, decide_eq_true_iff, decide_eq_true_iff, decide_eq_true_iff]
theorem isT_nat (h : MayT l) {i : Nat} (hi : i < l.length) : isT l (i : Int) = true := isT_iff.2 ⟨h, by omega, by omega⟩
theorem aboveZ_nat (h : MayT l) {i k : Nat} (hi : i < l.length) (hk : k < l.length) : aboveZ l (i : Int) (k : Int) = aboveT l i k := by
  unfold aboveZ
  rw [isT_nat h hi, isT_nat h hk]
  simp
theorem atZ_nat (h : MayT l) {i : Nat} (hi : i < l.length) (s : Nat) : atZ l (i : Int) s = atT l i s := by
  unfold atZ
  rw [if_pos (isT_nat h hi)]
  simp
theorem kidsZ_nat (h : MayT l) {i : Nat} (hi : i < l.length) : kidsZ l (i : Int) = kidsT l i := by
  unfold kidsZ
  rw [if_pos (isT_nat h hi)]
  simp
theorem cutZ_nat (h : MayT l) {i : Nat} (hi : i < l.length) : cutZ l (i : Int) = cutL l i := by
  unfold cutZ
  rw [if_pos (isT_nat h hi)]
  simp

/-! ### TreeAbove -/
theorem above_antisymm (h : MayT l) {a b : Nat} (ha : a < l.length) (hb : b < l.length) (h1 : aboveT l a b = true) (h2 : aboveT l b a = true) : a = b := by
  have := above_le h a b hb h1
  have := above_le h b a ha h2
  omega
theorem law_above (h : MayT l) {a b c : Nat} (ha : a < l.length) (hb : b < l.length) (hc : c < l.length) :
    aboveT l 0 a = true ∧ aboveT l a a = true ∧ (aboveT l a b = true → aboveT l b c = true → aboveT l a c = true) ∧ (aboveT l a b = true → aboveT l b a = true → a = b) ∧ (aboveT l a b = true → aboveT l c b = true → aboveT l a c = false → aboveT l c a = true) :=
  ⟨above_first h a ha, above_refl h ha, fun h1 h2 => above_trans h h1 c hc h2, fun h1 h2 => above_antisymm h ha hb h1 h2, fun h1 h2 h3 => (above_chain h b hb h1 h2).resolve_left (by rw [h3]; exact Bool.false_ne_true)⟩

/-! ### TreeAt -/
theorem law_at (h : MayT l) {i s t : Nat} (hi : i < l.length) (hst : t ≤ s) :
    (atT l i s = -1 ∧ atT l i t = -1 ∧ s < sl l 0) ∨ ∃ a : Nat, atT l i s = a ∧ a < l.length ∧ aboveT l a i = true ∧ sl l a ≤ s ∧ (∀ k, k < l.length → aboveT l k i = true → aboveT l k a = false → s < sl l k) ∧ (atT l i t = -1 ∨ ∃ b : Nat, atT l i t = b ∧ b < l.length ∧ aboveT l b a = true) := by
  rcases at_spec h s i hi with ⟨e, hn⟩ | ⟨a, e, ha, hai, hsa, hall⟩
  · refine .inl ⟨e, ?_, hn 0 (above_first h i hi)⟩
    rcases at_spec h t i hi with ⟨e2, _⟩ | ⟨b, _, _, hbi, hsb, _⟩
    · exact e2
    · have := hn b hbi; omega
  · refine .inr ⟨a, e, ha, hai, hsa, fun k _ hk1 hk2 => ?_, ?_⟩
    · apply Classical.byContradiction
      intro hle
      have := hall k hk1 (by omega)
      rw [hk2] at this
      cases this
    · rcases at_spec h t i hi with ⟨e2, _⟩ | ⟨b, e2, hb, hbi, hsb, _⟩
      · exact .inl e2
      · exact .inr ⟨b, e2, hb, hall b hbi (by omega)⟩

/-! ### TreeCut -/
theorem law_cut (h : MayT l) {i a b s : Nat} (hi : i < l.length) (ha : a < l.length) (hb : b < l.length) :
    MayT (cutL l i) ∧ (nd (cutL l i) 0).root = (nd l i).root ∧
    ((findT (cutL l i) (nd l a).root = -1 ∧ aboveT l i a = false) ∨ ∃ x : Nat, findT (cutL l i) (nd l a).root = x ∧ x < (cutL l i).length ∧ aboveT l i a = true ∧
      (findT (cutL l i) (nd l b).root = -1 ∨ ∃ y : Nat, findT (cutL l i) (nd l b).root = y ∧ y < (cutL l i).length ∧ aboveT (cutL l i) x y = aboveT l a b) ∧
      ((s < sl l i ∧ atT (cutL l i) x s = -1) ∨ (sl l i ≤ s ∧ ∃ p q : Nat, atT (cutL l i) x s = p ∧ atT l a s = q ∧ p < (cutL l i).length ∧ q < l.length ∧ (nd (cutL l i) p).root = (nd l q).root))) := by
  refine ⟨cut_may h hi, cut_first h hi, ?_⟩
  rw [cut_find h hi ha, cut_find h hi hb]
  by_cases hab : aboveT l i a = true
  · rw [if_pos hab]
    have hka : keptB l i a = true := kept_iff.2 ⟨ha, hab⟩
    refine .inr ⟨rankT l i a, rfl, rank_in hka, hab, ?_, ?_⟩
    · by_cases hbb : aboveT l i b = true
      · rw [if_pos hbb]
        have hkb : keptB l i b = true := kept_iff.2 ⟨hb, hbb⟩
        exact .inr ⟨rankT l i b, rfl, rank_in hkb, cut_above h hi hka b hkb⟩
      · rw [if_neg hbb]; exact .inl rfl
    · rw [cut_at h hi s a hka]
      by_cases hs : sl l i ≤ s
      · obtain ⟨q, e, hq⟩ := at_kept h hka hs
        rw [if_pos hs, e]
        have : ((q : Int)).toNat = q := by omega
        rw [this]
        exact .inr ⟨hs, rankT l i q, q, rfl, rfl, rank_in hq, (kept_iff.1 hq).1, cut_root hq⟩
      · rw [if_neg hs]; exact .inl ⟨by omega, rfl⟩
  · rw [if_neg hab]
    exact .inl ⟨rfl, by simpa using hab⟩

/-! ### TreeKids -/
theorem kids_nodup (i : Nat) : (kidsT l i).Nodup := List.Pairwise.filter _ List.nodup_range
theorem kids_count (k i : Nat) : (kidsT l k).count i = if i < l.length ∧ (nd l i).parent = (k : Int) then 1 else 0 := by
  by_cases hm : i ∈ kidsT l k
  · rw [if_pos (mem_kids.1 hm)]
    have h1 := List.nodup_iff_count.1 (kids_nodup (l := l) k) i
    have h2 := List.count_pos_iff.2 hm
    omega
  · rw [if_neg (fun e => hm (mem_kids.2 e))]
    exact List.count_eq_zero.2 hm
/-- How many of the first so many nodes i is a child of. -/
def bornT (l : List Nd) (i k : Nat) : Nat := if 0 < i ∧ up l i < k then 1 else 0
theorem born_succ (h : MayT l) {i k : Nat} (hi : i < l.length) : bornT l i (k + 1) = bornT l i k + (kidsT l k).count i := by
  rw [kids_count]
  unfold bornT
  by_cases h0 : i = 0
  · subst h0
    rw [h.first, if_neg (by omega), if_neg (by omega), if_neg (by omega)]
  · obtain ⟨e, _, _⟩ := h.par (Nat.pos_of_ne_zero h0) hi
    rw [e]
    by_cases h1 : up l i < k
    · rw [if_pos (by omega), if_pos (by omega), if_neg (by omega)]
    · by_cases h2 : up l i = k
      · rw [if_pos (by omega), if_neg (by omega), if_pos (by omega)]
      · rw [if_neg (by omega), if_neg (by omega), if_neg (by omega)]
theorem born_zero (i : Nat) : bornT l i 0 = 0 := by unfold bornT; rw [if_neg (by omega)]
theorem born_all (h : MayT l) {i : Nat} (hi : i < l.length) : bornT l i l.length = if 0 < i then 1 else 0 := by
  unfold bornT
  by_cases h0 : 0 < i
  · obtain ⟨_, hu, _⟩ := h.par h0 hi
    rw [if_pos (by omega), if_pos h0]
  · rw [if_neg (by omega), if_neg h0]

/-! ### TreeLast -/
theorem law_last {r p : Rt} {s : UInt64} (j : UInt64) (he : insE l r p s = 0) {i k : Nat} (hi : i < l.length) (hk : k < l.length) :
    ∃ q : Nat, findT l p = q ∧ q < l.length ∧ kidsT (l ++ [insN l r p s j]) l.length = [] ∧ aboveT (l ++ [insN l r p s j]) i l.length = aboveT l i q ∧ aboveT (l ++ [insN l r p s j]) i k = aboveT l i k ∧ aboveT (l ++ [insN l r p s j]) l.length i = false ∧ atT (l ++ [insN l r p s j]) l.length s.toNat = l.length := by
  obtain ⟨hm, _, ⟨q, e, hq, _, _⟩, _, _⟩ := insE_zero he
  have hm' := ins_may j he
  have hp : (insN l r p s j).parent.toNat = q := by
    show (findT l p).toNat = q
    rw [e]; omega
  refine ⟨q, e, hq, kids_last hm', ?_, above_snoc hm hm' i k hk, last_not_above hm' hi, ?_⟩
  · rw [Bool.eq_iff_iff, above_last hm hm', hp]
    exact ⟨fun h => h.resolve_left (by omega), .inr⟩
  · refine at_self hm' (by simp) ?_
    unfold sl
    rw [nd_last]
    exact Nat.le_refl _
end
end Go.Proofs.Ytonfmddjlhgglaa
