/-
  Trees, plainly: the functions at whatever places; what the laws of layer 6 want of them.
  Sums, plainly; no word of the program.
  Trees, plainly: sums over all that descend from a node; what the laws of layer 8 want of them.
-/
import Derived.Test.YtccihllcohnnnaaQ04
import Derived.Below
namespace Go.Proofs.Ytccihllcohnnnaa
set_option maxRecDepth 100000

def isT (l : List Nd) (i : Int) : Bool := decide (MayT l) && (decide (0 ≤ i) && decide (i < l.length))
def aboveZ (l : List Nd) (i k : Int) : Bool := (isT l i && isT l k) && aboveT l i.toNat k.toNat
def atZ (l : List Nd) (i : Int) (s : Nat) : Int := if isT l i = true then atT l i.toNat s else -1
def kidsZ (l : List Nd) (i : Int) : List Nat := if isT l i = true then kidsT l i.toNat else []
def cutZ (l : List Nd) (i : Int) : List Nd := if isT l i = true then cutL l i.toNat else []
section
variable {l : List Nd}
theorem isT_iff {i : Int} : isT l i = true ↔ MayT l ∧ 0 ≤ i ∧ i < l.length := by
  unfold isT
  rw [Bool.and_eq_true, Bool.and_eq_true, decide_eq_true_iff, decide_eq_true_iff, decide_eq_true_iff]
theorem isT_nat (h : MayT l) {i : Nat} (hi : i < l.length) : isT l (i : Int) = true := isT_iff.2 ⟨h, by omega, by omega⟩
theorem aboveZ_nat (h : MayT l) {i k : Nat} (hi : i < l.length) (hk : k < l.length) : aboveZ l (i : Int) (k : Int) = aboveT l i k := by
  unfold aboveZ
  rw [isT_nat h hi, isT_nat h hk]
  simp
theorem atZ_nat (h : MayT l) {i : Nat} (hi : i < l.length) (s : Nat) : atZ l (i : Int) s = atT l i s := by
  unfold atZ
  rw [if_pos (isT_nat h hi)]
  simp
theorem kidsZ_nat (h : MayT l) {i : Nat} (hi : i < l.length) : kidsZ l (i : Int) = kidsT l i := by
  unfold kidsZ
  rw [if_pos (isT_nat h hi)]
  simp
theorem cutZ_nat (h : MayT l) {i : Nat} (hi : i < l.length) : cutZ l (i : Int) = cutL l i := by
  unfold cutZ
  rw [if_pos (isT_nat h hi)]
  simp

/-! ### TreeAbove -/
theorem above_antisymm (h : MayT l) {a b : Nat} (ha : a < l.length) (hb : b < l.length) (h1 : aboveT l a b = true) (h2 : aboveT l b a = true) : a = b := by
  have := above_le h a b hb h1
  have := above_le h b a ha h2
  omega
theorem law_above (h : MayT l) {a b c : Nat} (ha : a < l.length) (hb : b < l.length) (hc : c < l.length) :
    aboveT l 0 a = true ∧ aboveT l a a = true ∧ (aboveT l a b = true → aboveT l b c = true → aboveT l a c = true) ∧ (aboveT l a b = true → aboveT l b a = true → a = b) ∧ (aboveT l a b = true → aboveT l c b = true → aboveT l a c = false → aboveT l c a = true) :=
  ⟨above_first h a ha, above_refl h ha, fun h1 h2 => above_trans h h1 c hc h2, fun h1 h2 => above_antisymm h ha hb h1 h2, fun h1 h2 h3 => (above_chain h b hb h1 h2).resolve_left (by rw [h3]; exact Bool.false_ne_true)⟩

/-! ### TreeAt -/
theorem law_at (h : MayT l) {i s t : Nat} (hi : i < l.length) (hst : t ≤ s) :
    (atT l i s = -1 ∧ atT l i t = -1 ∧ s < sl l 0) ∨ ∃ a : Nat, atT l i s = a ∧ a < l.length ∧ aboveT l a i = true ∧ sl l a ≤ s ∧ (∀ k, k < l.length → aboveT l k i = true → aboveT l k a = false → s < sl l k) ∧ (atT l i t = -1 ∨ ∃ b : Nat, atT l i t = b ∧ b < l.length ∧ aboveT l b a = true) := by
  rcases at_spec h s i hi with ⟨e, hn⟩ | ⟨a, e, ha, hai, hsa, hall⟩
  · refine .inl ⟨e, ?_, hn 0 (above_first h i hi)⟩
    rcases at_spec h t i hi with ⟨e2, _⟩ | ⟨b, _, _, hbi, hsb, _⟩
    · exact e2
    · have := hn b hbi; omega
  · refine .inr ⟨a, e, ha, hai, hsa, fun k _ hk1 hk2 => ?_, ?_⟩
    · apply Classical.byContradiction
      intro hle
      have := hall k hk1 (by omega)
      rw [hk2] at this
      cases this
    · rcases at_spec h t i hi with ⟨e2, _⟩ | ⟨b, e2, hb, hbi, hsb, _⟩
      · exact .inl e2
      · exact .inr ⟨b, e2, hb, hall b hbi (by omega)⟩

/-! ### TreeCut -/
theorem law_cut (h : MayT l) {i a b s : Nat} (hi : i < l.length) (ha : a < l.length) (hb : b < l.length) :
    MayT (cutL l i) ∧ (nd (cutL l i) 0).root = (nd l i).root ∧
    ((findT (cutL l i) (nd l a).root = -1 ∧ aboveT l i a = false) ∨ ∃ x : Nat, findT (cutL l i) (nd l a).root = x ∧ x < (cutL l i).length ∧ aboveT l i a = true ∧
      (findT (cutL l i) (nd l b).root = -1 ∨ ∃ y : Nat, findT (cutL l i) (nd l b).root = y ∧ y < (cutL l i).length ∧ aboveT (cutL l i) x y = aboveT l a b) ∧
      ((s < sl l i ∧ atT (cutL l i) x s = -1) ∨ (sl l i ≤ s ∧ ∃ p q : Nat, atT (cutL l i) x s = p ∧ atT l a s = q ∧ p < (cutL l i).length ∧ q < l.length ∧ (nd (cutL l i) p).root = (nd l q).root))) := by
  refine ⟨cut_may h hi, cut_first h hi, ?_⟩
  rw [cut_find h hi ha, cut_find h hi hb]
  by_cases hab : aboveT l i a = true
  · rw [if_pos hab]
    have hka : keptB l i a = true := kept_iff.2 ⟨ha, hab⟩
    refine .inr ⟨rankT l i a, rfl, rank_in hka, hab, ?_, ?_⟩
    · by_cases hbb : aboveT l i b = true
      · rw [if_pos hbb]
        have hkb : keptB l i b = true := kept_iff.2 ⟨hb, hbb⟩
        exact .inr ⟨rankT l i b, rfl, rank_in hkb, cut_above h hi hka b hkb⟩
      · rw [if_neg hbb]; exact .inl rfl
    · rw [cut_at h hi s a hka]
      by_cases hs : sl l i ≤ s
      · obtain ⟨q, e, hq⟩ := at_kept h hka hs
        rw [if_pos hs, e]
        have : ((q : Int)).toNat = q := by omega
        rw [this]
        exact .inr ⟨hs, rankT l i q, q, rfl, rfl, rank_in hq, (kept_iff.1 hq).1, cut_root hq⟩
      · rw [if_neg hs]; exact .inl ⟨by omega, rfl⟩
  · rw [if_neg hab]
    exact .inl ⟨rfl, by simpa using hab⟩

/-! ### TreeKids -/
theorem kids_nodup (i : Nat) : (kidsT l i).Nodup := List.Pairwise.filter _ List.nodup_range
theorem kids_count (k i : Nat) : (kidsT l k).count i = if i < l.length ∧ (nd l i).parent = (k : Int) then 1 else 0 := by
  by_cases hm : i ∈ kidsT l k
  · rw [if_pos (mem_kids.1 hm)]
    have h1 := List.nodup_iff_count.1 (kids_nodup (l := l) k) i
    have h2 := List.count_pos_iff.2 hm
    omega
  · rw [if_neg (fun e => hm (mem_kids.2 e))]
    exact List.count_eq_zero.2 hm
/-- How many of the first so many nodes i is a child of. -/
def bornT (l : List Nd) (i k : Nat) : Nat := if 0 < i ∧ up l i < k then 1 else 0
theorem born_succ (h : MayT l) {i k : Nat} (hi : i < l.length) : bornT l i (k + 1) = bornT l i k + (kidsT l k).count i := by
  rw [kids_count]
  unfold bornT
  by_cases h0 : i = 0
  · subst h0
    rw [h.first, if_neg (by omega), if_neg (by omega), if_neg (by omega)]
  · obtain ⟨e, _, _⟩ := h.par (Nat.pos_of_ne_zero h0) hi
    rw [e]
    by_cases h1 : up l i < k
    · rw [if_pos (by omega), if_pos (by omega), if_neg (by omega)]
    · by_cases h2 : up l i = k
      · rw [if_pos (by omega), if_neg (by omega), if_pos (by omega)]
      · rw [if_neg (by omega), if_neg (by omega), if_neg (by omega)]
theorem born_zero (i : Nat) : bornT l i 0 = 0 := by unfold bornT; rw [if_neg (by omega)]
theorem born_all (h : MayT l) {i : Nat} (hi : i < l.length) : bornT l i l.length = if 0 < i then 1 else 0 := by
  unfold bornT
  by_cases h0 : 0 < i
  · obtain ⟨_, hu, _⟩ := h.par h0 hi
    rw [if_pos (by omega), if_pos h0]
  · rw [if_neg (by omega), if_neg h0]

/-! ### TreeLast -/
theorem law_last {r p : Rt} {s : UInt64} (j : UInt64) (he : insE l r p s = 0) {i k : Nat} (hi : i < l.length) (hk : k < l.length) :
    ∃ q : Nat, findT l p = q ∧ q < l.length ∧ kidsT (l ++ [insN l r p s j]) l.length = [] ∧ aboveT (l ++ [insN l r p s j]) i l.length = aboveT l i q ∧ aboveT (l ++ [insN l r p s j]) i k = aboveT l i k ∧ aboveT (l ++ [insN l r p s j]) l.length i = false ∧ atT (l ++ [insN l r p s j]) l.length s.toNat = l.length := by
  obtain ⟨hm, _, ⟨q, e, hq, _, _⟩, _, _⟩ := insE_zero he
  have hm' := ins_may j he
  have hp : (insN l r p s j).parent.toNat = q := by
    show (findT l p).toNat = q
    rw [e]; omega
  refine ⟨q, e, hq, kids_last hm', ?_, above_snoc hm hm' i k hk, last_not_above hm' hi, ?_⟩
  · rw [Bool.eq_iff_iff, above_last hm hm', hp]
    exact ⟨fun h => h.resolve_left (by omega), .inr⟩
  · refine at_self hm' (by simp) ?_
    unfold sl
    rw [nd_last]
    exact Nat.le_refl _
end
end Go.Proofs.Ytccihllcohnnnaa
namespace Go.Proofs.Ytccihllcohnnnaa
set_option maxRecDepth 100000

/-- The sum of the first n. -/
def sumF (f : Nat → Nat) : Nat → Nat
  | 0 => 0
  | n + 1 => sumF f n + f n
theorem sumF_add (f g : Nat → Nat) : ∀ n, sumF (fun k => f k + g k) n = sumF f n + sumF g n
  | 0 => rfl
  | n + 1 => by simp only [sumF]; rw [sumF_add f g n]; omega
theorem sumF_congr {f g : Nat → Nat} : ∀ n, (∀ k, k < n → f k = g k) → sumF f n = sumF g n
  | 0, _ => rfl
  | n + 1, h => by simp only [sumF]; rw [sumF_congr n (fun k hk => h k (by omega)), h n (by omega)]
theorem sumF_zero : ∀ n, sumF (fun _ => 0) n = 0
  | 0 => rfl
  | n + 1 => by simp only [sumF]; rw [sumF_zero n]
theorem sumF_swap (f : Nat → Nat → Nat) (m : Nat) : ∀ n, sumF (fun k => sumF (f k) m) n = sumF (fun j => sumF (fun k => f k j) n) m
  | 0 => by simp only [sumF]; rw [sumF_zero]
  | n + 1 => by
    simp only [sumF]
    rw [sumF_swap f m n, ← sumF_add]
theorem sumF_le {f g : Nat → Nat} : ∀ n, (∀ k, k < n → f k ≤ g k) → sumF f n ≤ sumF g n
  | 0, _ => Nat.le_refl _
  | n + 1, h => by simp only [sumF]; have := sumF_le n (fun k hk => h k (by omega)); have := h n (by omega); omega
theorem sumF_part (f : Nat → Nat) {m n : Nat} (h : m ≤ n) : sumF f m ≤ sumF f n := by
  induction n with
  | zero => obtain rfl : m = 0 := by omega
            exact Nat.le_refl _
  | succ n ih =>
    by_cases e : m = n + 1
    · subst e; exact Nat.le_refl _
    · have := ih (by omega); simp only [sumF]; omega
theorem sumF_one (f : Nat → Nat) {n i : Nat} (h : i < n) (hz : ∀ k, k < n → k ≠ i → f k = 0) : sumF f n = f i := by
  induction n with
  | zero => omega
  | succ n ih =>
    simp only [sumF]
    by_cases e : i = n
    · subst e
      rw [sumF_congr (g := fun _ => 0) i (fun k hk => hz k (by omega) (by omega)), sumF_zero, Nat.zero_add]
    · rw [ih (by omega) (fun k hk hn => hz k (by omega) hn), hz n (by omega) (fun e2 => e e2.symm), Nat.add_zero]

theorem sum_filter (p : Nat → Bool) (g : Nat → Nat) : ∀ n, (((List.range n).filter p).map g).sum = sumF (fun c => if p c = true then g c else 0) n
  | 0 => rfl
  | n + 1 => by
    rw [List.range_succ, List.filter_append, List.map_append, List.sum_append, sum_filter p g n]
    simp only [sumF]
    congr 1
    by_cases h : p n = true <;> simp [h]
end Go.Proofs.Ytccihllcohnnnaa
namespace Go.Proofs.Ytccihllcohnnnaa
set_option maxRecDepth 100000

/-- What a node weighs, of what each has of its own. -/
def subT (l : List Nd) (f : Nat → Nat) (i : Nat) : Nat := sumF (fun k => if aboveT l i k = true then f k else 0) l.length
section
variable {l : List Nd}
theorem sub_add (f g : Nat → Nat) (i : Nat) : subT l (fun k => f k + g k) i = subT l f i + subT l g i := by
  unfold subT
  rw [← sumF_add]
  refine sumF_congr _ fun k _ => ?_
  dsimp only
  split <;> rfl
theorem sub_congr {f g : Nat → Nat} (i : Nat) (h : ∀ k, k < l.length → f k = g k) : subT l f i = subT l g i := by
  unfold subT
  refine sumF_congr _ fun k hk => ?_
  split
  · exact h k hk
  · rfl
theorem sub_le {f g : Nat → Nat} (i : Nat) (h : ∀ k, k < l.length → f k ≤ g k) : subT l f i ≤ subT l g i := by
  unfold subT
  refine sumF_le _ fun k hk => ?_
  split
  · exact h k hk
  · exact Nat.le_refl _
theorem sub_first (h : MayT l) (f : Nat → Nat) : subT l f 0 = sumF f l.length := by
  unfold subT
  refine sumF_congr _ fun k hk => ?_
  rw [if_pos (above_first h k hk)]
theorem sub_bound (f : Nat → Nat) (i : Nat) (b : Nat) (h : ∀ k, k < l.length → f k ≤ b) : subT l f i ≤ l.length * b := by
  unfold subT
  have : ∀ n, n ≤ l.length → sumF (fun k => if aboveT l i k = true then f k else 0) n ≤ n * b := by
    intro n
    induction n with
    | zero => intro _; simp [sumF]
    | succ n ih =>
      intro hn
      simp only [sumF]
      have h1 := ih (by omega)
      have h2 : (if aboveT l i n = true then f n else 0) ≤ b := by
        split
        · exact h n (by omega)
        · omega
      rw [Nat.add_mul, Nat.one_mul]
      omega
  exact this _ (Nat.le_refl _)
/-- Of a node's children just one is above what the node is above, unless it is itself. -/
theorem kid_above (h : MayT l) (i : Nat) : ∀ k, k < l.length → sumF (fun c => if (nd l c).parent = (i : Int) ∧ aboveT l c k = true then 1 else 0) l.length = if aboveT l i k = true ∧ k ≠ i then 1 else 0 := by
  intro k
  induction k using Nat.strongRecOn with
  | _ k ih =>
    intro hk
    by_cases h0 : k = 0
    · subst h0
      rw [sumF_congr (g := fun _ => 0) _ (fun c _ => ?_), sumF_zero, if_neg ?_]
      · rintro ⟨h1, h2⟩
        rw [above_zero, decide_eq_true_iff] at h1
        omega
      · rw [if_neg]
        rintro ⟨h1, h2⟩
        rw [above_zero, decide_eq_true_iff] at h2
        subst h2
        rw [h.first] at h1
        omega
    · have hp := Nat.pos_of_ne_zero h0
      obtain ⟨hpar, hu, _⟩ := h.par hp hk
      have e : ∀ c, c < l.length → (if (nd l c).parent = (i : Int) ∧ aboveT l c k = true then 1 else 0) = (if c = k ∧ (nd l c).parent = (i : Int) then 1 else 0) + (if (nd l c).parent = (i : Int) ∧ aboveT l c (up l k) = true then 1 else 0) := by
        intro c _
        by_cases hc : c = k
        · subst hc
          have hn : aboveT l c (up l c) = false := by
            rw [← Bool.not_eq_true]; intro e
            have := above_le h c _ (by omega) e; omega
          rw [hn, above_refl h hk]
          simp
        · have : aboveT l c k = aboveT l c (up l k) := by
            rw [Bool.eq_iff_iff, above_iff h c hp hk]
            exact ⟨fun e => e.resolve_left hc, .inr⟩
          rw [this]
          simp [hc]
      rw [sumF_congr _ e, sumF_add, ih _ hu (by omega)]
      rw [sumF_one (fun c => if c = k ∧ (nd l c).parent = (i : Int) then 1 else 0) hk (fun c _ hc => by rw [if_neg]; rintro ⟨h1, _⟩; exact hc h1)]
      by_cases hi : up l k = i
      · have h1 : (nd l k).parent = (i : Int) := by rw [hpar, hi]
        have h2 : aboveT l i k = true := (above_iff h i hp hk).2 (.inr (by rw [hi]; exact above_refl h (by omega)))
        rw [if_pos ⟨rfl, h1⟩, if_neg (fun e => e.2 hi), if_pos ⟨h2, by omega⟩]
      · have h1 : ¬ (nd l k).parent = (i : Int) := by rw [hpar]; omega
        rw [if_neg (fun e => h1 e.2), Nat.zero_add]
        by_cases hki : k = i
        · subst hki
          have hn : aboveT l k (up l k) = false := by
            rw [← Bool.not_eq_true]; intro e
            have := above_le h k _ (by omega) e; omega
          rw [hn]
          simp
        · have : aboveT l i k = aboveT l i (up l k) := by
            rw [Bool.eq_iff_iff, above_iff h i hp hk]
            exact ⟨fun e => e.resolve_left (fun e2 => hki e2.symm), .inr⟩
          rw [this]
          simp [hi, hki]
/-- A node weighs its own, and what its children weigh. -/
theorem sub_kids (h : MayT l) (f : Nat → Nat) {i : Nat} (hi : i < l.length) : subT l f i = f i + sumF (fun c => if (nd l c).parent = (i : Int) then subT l f c else 0) l.length := by
  have e1 : sumF (fun c => if (nd l c).parent = (i : Int) then subT l f c else 0) l.length = sumF (fun c => sumF (fun k => if (nd l c).parent = (i : Int) ∧ aboveT l c k = true then f k else 0) l.length) l.length := by
    refine sumF_congr _ fun c _ => ?_
    by_cases hc : (nd l c).parent = (i : Int)
    · rw [if_pos hc]
      unfold subT
      refine sumF_congr _ fun k _ => ?_
      simp [hc]
    · rw [if_neg hc, sumF_congr (g := fun _ => 0) _ (fun k _ => by rw [if_neg (fun e => hc e.1)]), sumF_zero]
  rw [e1, sumF_swap]
  have e2 : ∀ k, k < l.length → sumF (fun c => if (nd l c).parent = (i : Int) ∧ aboveT l c k = true then f k else 0) l.length = if aboveT l i k = true ∧ k ≠ i then f k else 0 := by
    intro k hk
    have := kid_above h i k hk
    have e3 : ∀ n, sumF (fun c => if (nd l c).parent = (i : Int) ∧ aboveT l c k = true then f k else 0) n = sumF (fun c => if (nd l c).parent = (i : Int) ∧ aboveT l c k = true then 1 else 0) n * f k := by
      intro n
      induction n with
      | zero => simp [sumF]
      | succ n ih =>
        simp only [sumF]
        rw [ih, Nat.add_mul]
        congr 1
        split <;> simp
    rw [e3, this]
    split <;> simp
  rw [sumF_congr _ e2]
  have e4 : f i = sumF (fun k => if k = i then f k else 0) l.length := by
    rw [sumF_one (fun k => if k = i then f k else 0) hi (fun k _ hk => by rw [if_neg hk]), if_pos rfl]
  rw [e4, ← sumF_add]
  unfold subT
  refine sumF_congr _ fun k _ => ?_
  by_cases hk : k = i
  · subst hk
    rw [above_refl h hi]
    simp
  · simp [hk]
theorem law_node (h : MayT l) (f : Nat → Nat) {i : Nat} (hi : i < l.length) : subT l f i = f i + ((kidsT l i).map (subT l f)).sum := by
  rw [sub_kids h f hi]
  congr 1
  unfold kidsT
  rw [sum_filter]
  refine sumF_congr _ fun c _ => ?_
  simp
end
end Go.Proofs.Ytccihllcohnnnaa
