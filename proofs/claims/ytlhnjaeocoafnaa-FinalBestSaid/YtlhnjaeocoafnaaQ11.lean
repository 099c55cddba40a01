/-
  Links, plainly: which may be, who attests one, what the laws of layer 15 want; no word of the program.
-/
import Derived.Test.YtlhnjaeocoafnaaQ08
import Derived.Test.YtlhnjaeocoafnaaQ10
namespace Go.Proofs.Ytlhnjaeocoafnaa
set_option maxRecDepth 100000

theorem lkAt_in {ls : List Lk} {i : Nat} (h : i < ls.length) : lkAt ls i = ls[i] := by simp [lkAt, h]
theorem lkAt_mem {ls : List Lk} {i : Nat} (h : i < ls.length) : lkAt ls i ∈ ls := by rw [lkAt_in h]; exact List.getElem_mem h
theorem lk_ext {a b : List Lk} (hl : a.length = b.length) (h : ∀ i, i < b.length → lkAt a i = lkAt b i) : a = b := by
  refine List.ext_getElem hl fun i h1 h2 => ?_
  have := h i h2
  rwa [lkAt_in h1, lkAt_in h2] at this
theorem lkAt_app {a b : List Lk} {i : Nat} (h : i < a.length) : lkAt (a ++ b) i = lkAt a i := by
  rw [lkAt_in h, lkAt_in (by rw [List.length_append]; omega), List.getElem_append_left h]
theorem lkAt_last {a : List Lk} {x : Lk} : lkAt (a ++ [x]) a.length = x := by
  rw [lkAt_in (by rw [List.length_append]; simp)]; simp
theorem lkAt_set {a : List Lk} {i k : Nat} {x : Lk} (h : i < a.length) : lkAt (a.set i x) k = if k = i then x else lkAt a k := by
  unfold lkAt
  rw [List.getD_eq_getElem?_getD, List.getD_eq_getElem?_getD, List.getElem?_set]
  by_cases e : k = i
  · subst e; rw [if_pos rfl, if_pos rfl, if_pos h]; rfl
  · rw [if_neg (fun h => e h.symm), if_neg e]

/-! ### which may be -/
def okK (x : Lk) : Prop := x.s.epoch.toNat < x.t.epoch.toNat ∧ 1 ≤ x.mask.toNat ∧ x.mask.toNat ≤ 255
instance (x : Lk) : Decidable (okK x) := by unfold okK; exact inferInstance
/-- Those of the first n may be: each, and none is one ahead of it. -/
def MayK (l : List Lk) (n : Nat) : Prop := ∀ i, i < n → okK (lkAt l i) ∧ ∀ k, k < i → oneB (lkAt l i) (lkAt l k) = false
instance (l : List Lk) (n : Nat) : Decidable (MayK l n) := by unfold MayK; exact inferInstance
def mayL (l : List Lk) : Bool := decide (MayK l l.length ∧ l.length ≤ 16)
theorem mayL_iff {l : List Lk} : mayL l = true ↔ MayK l l.length ∧ l.length ≤ 16 := by unfold mayL; rw [decide_eq_true_iff]
theorem oneB_iff {a b : Lk} : oneB a b = true ↔ a.s = b.s ∧ a.t = b.t := by unfold oneB; rw [decide_eq_true_iff]
theorem oneB_comm (a b : Lk) : oneB a b = oneB b a := by
  rw [Bool.eq_iff_iff, oneB_iff, oneB_iff]
  exact ⟨fun h => ⟨h.1.symm, h.2.symm⟩, fun h => ⟨h.1.symm, h.2.symm⟩⟩
/-- In links that may be no two places are one. -/
theorem may_one {l : List Lk} {n i k : Nat} (h : MayK l n) (hi : i < n) (hk : k < n) (e : oneB (lkAt l i) (lkAt l k) = true) : i = k := by
  rcases Nat.lt_trichotomy i k with h1 | h1 | h1
  · have := (h k hk).2 i h1
    rw [oneB_comm, e] at this; cases this
  · exact h1
  · have := (h i hi).2 k h1
    rw [e] at this; cases this

/-! ### who attests -/
def isK (s t : Ck) (x : Lk) : Bool := decide (x.s = s ∧ x.t = t)
def atK (l : List Lk) (s t : Ck) : Nat := l.findIdx (isK s t)
def bitK (v : Int) : UInt64 := UInt64.ofNat (bitN v)
theorem bitK_nat (v : Int) : (bitK v).toNat = bitN v := by
  unfold bitK
  rw [UInt64.toNat_ofNat', Nat.mod_eq_of_lt (bitN_lt v)]
def errK (l : List Lk) (s t : Ck) (v : Int) : Nat :=
  if mayL l = true then (if 0 ≤ v ∧ v < 8 then (if s.epoch.toNat < t.epoch.toNat then (if atK l s t < l.length then 0 else if l.length = 16 then 3 else 0) else 9) else 10) else 1
def putK (l : List Lk) (s t : Ck) (v : Int) : List Lk :=
  if errK l s t v = 0 then (if atK l s t < l.length then l.set (atK l s t) { lkAt l (atK l s t) with mask := (lkAt l (atK l s t)).mask ||| bitK v } else l ++ [⟨s, t, bitK v⟩]) else l
def whoK (l : List Lk) (s t : Ck) : UInt64 := if atK l s t < l.length then (lkAt l (atK l s t)).mask else 0
section
variable {l : List Lk} {s t : Ck} {v : Int}
theorem isK_iff {x : Lk} : isK s t x = true ↔ x.s = s ∧ x.t = t := by unfold isK; rw [decide_eq_true_iff]
theorem at_le : atK l s t ≤ l.length := List.findIdx_le_length
theorem at_here (h : atK l s t < l.length) : isK s t (lkAt l (atK l s t)) = true := by
  rw [lkAt_in h]; exact List.findIdx_getElem
theorem at_ahead {k : Nat} (h : k < atK l s t) : isK s t (lkAt l k) = false := by
  have h2 : k < l.length := Nat.lt_of_lt_of_le h at_le
  rw [lkAt_in h2]
  have := List.not_of_lt_findIdx h
  simpa using this
/-- The first place that is from s to t. -/
theorem atk_spec {i : Nat} (hi : i < l.length) (h : isK s t (lkAt l i) = true) (ha : ∀ k, k < i → isK s t (lkAt l k) = false) : atK l s t = i := by
  rcases Nat.lt_trichotomy (atK l s t) i with h1 | h1 | h1
  · have := ha _ h1
    rw [at_here (by omega)] at this; cases this
  · exact h1
  · have := at_ahead h1
    rw [h] at this; cases this
theorem at_none (ha : ∀ k, k < l.length → isK s t (lkAt l k) = false) : atK l s t = l.length := by
  have := at_le (l := l) (s := s) (t := t)
  by_cases h : atK l s t < l.length
  · have h2 := ha _ h
    rw [at_here h] at h2; cases h2
  · omega
theorem err_may (h : mayL l = false) : errK l s t v = 1 := by unfold errK; rw [if_neg (by rw [h]; exact Bool.false_ne_true)]
theorem err_val (h : mayL l = true) (hv : ¬ (0 ≤ v ∧ v < 8)) : errK l s t v = 10 := by unfold errK; rw [if_pos h, if_neg hv]
theorem err_link (h : mayL l = true) (hv : 0 ≤ v ∧ v < 8) (he : ¬ s.epoch.toNat < t.epoch.toNat) : errK l s t v = 9 := by unfold errK; rw [if_pos h, if_pos hv, if_neg he]
theorem err_there (h : mayL l = true) (hv : 0 ≤ v ∧ v < 8) (he : s.epoch.toNat < t.epoch.toNat) (ha : atK l s t < l.length) : errK l s t v = 0 := by unfold errK; rw [if_pos h, if_pos hv, if_pos he, if_pos ha]
theorem err_full (h : mayL l = true) (hv : 0 ≤ v ∧ v < 8) (he : s.epoch.toNat < t.epoch.toNat) (ha : ¬ atK l s t < l.length) (hl : l.length = 16) : errK l s t v = 3 := by unfold errK; rw [if_pos h, if_pos hv, if_pos he, if_neg ha, if_pos hl]
theorem err_new (h : mayL l = true) (hv : 0 ≤ v ∧ v < 8) (he : s.epoch.toNat < t.epoch.toNat) (ha : ¬ atK l s t < l.length) (hl : ¬ l.length = 16) : errK l s t v = 0 := by unfold errK; rw [if_pos h, if_pos hv, if_pos he, if_neg ha, if_neg hl]
theorem err_zero (h : errK l s t v = 0) : mayL l = true ∧ (0 ≤ v ∧ v < 8) ∧ s.epoch.toNat < t.epoch.toNat ∧ (atK l s t < l.length ∨ l.length < 16) := by
  have hm : mayL l = true := by
    cases e : mayL l
    · rw [err_may e] at h; omega
    · rfl
  have hl := (mayL_iff.1 hm).2
  by_cases hv : 0 ≤ v ∧ v < 8
  · by_cases he : s.epoch.toNat < t.epoch.toNat
    · refine ⟨hm, hv, he, ?_⟩
      by_cases ha : atK l s t < l.length
      · exact .inl ha
      · refine .inr ?_
        by_cases hq : l.length = 16
        · rw [err_full hm hv he ha hq] at h; omega
        · omega
    · rw [err_link hm hv he] at h; omega
  · rw [err_val hm hv] at h; omega
theorem put_err (h : errK l s t v ≠ 0) : putK l s t v = l := by unfold putK; rw [if_neg h]
theorem put_there (h : errK l s t v = 0) (ha : atK l s t < l.length) : putK l s t v = l.set (atK l s t) { lkAt l (atK l s t) with mask := (lkAt l (atK l s t)).mask ||| bitK v } := by unfold putK; rw [if_pos h, if_pos ha]
theorem put_new (h : errK l s t v = 0) (ha : ¬ atK l s t < l.length) : putK l s t v = l ++ [⟨s, t, bitK v⟩] := by unfold putK; rw [if_pos h, if_neg ha]
theorem put_lenK : (putK l s t v).length ≤ l.length + 1 := by
  unfold putK
  split
  · split
    · rw [List.length_set]; omega
    · rw [List.length_append]; simp
  · omega
theorem bit_small (hv : 0 ≤ v ∧ v < 8) : 1 ≤ (bitK v).toNat ∧ (bitK v).toNat < 2 ^ 8 := by
  obtain ⟨n, rfl⟩ : ∃ n : Nat, v = n := ⟨v.toNat, by omega⟩
  rw [bitK_nat, bitN_nat (by omega)]
  exact ⟨Nat.two_pow_pos n, Nat.pow_lt_pow_right (by decide) (by omega)⟩
theorem mask_or {a b : UInt64} (ha : a.toNat ≤ 255) (hb : 1 ≤ b.toNat ∧ b.toNat < 2 ^ 8) : 1 ≤ (a ||| b).toNat ∧ (a ||| b).toNat ≤ 255 := by
  rw [UInt64.toNat_or]
  have h1 := Nat.or_lt_two_pow (show a.toNat < 2 ^ 8 by omega) hb.2
  have h2 : b.toNat ≤ a.toNat ||| b.toNat := Nat.right_le_or
  omega
/-- LinkPut: what is put. -/
theorem law_put (h : errK l s t v = 0) :
    (∀ i, i < l.length → i < (putK l s t v).length ∧ (lkAt (putK l s t v) i).s = (lkAt l i).s ∧ (lkAt (putK l s t v) i).t = (lkAt l i).t ∧ (isK s t (lkAt l i) = false → (lkAt (putK l s t v) i).mask = (lkAt l i).mask) ∧ (isK s t (lkAt l i) = true → (lkAt (putK l s t v) i).mask = (lkAt l i).mask ||| bitK v)) ∧
    mayL (putK l s t v) = true ∧ errK (putK l s t v) s t v = 0 ∧ putK (putK l s t v) s t v = putK l s t v ∧ whoK (putK l s t v) s t = whoK l s t ||| bitK v := by
  obtain ⟨hm, hv, he, hr⟩ := err_zero h
  obtain ⟨hk, h16⟩ := mayL_iff.1 hm
  by_cases ha : atK l s t < l.length
  · have hp := put_there h ha
    have his := isK_iff.1 (at_here ha)
    obtain ⟨a, hae⟩ : ∃ a, a = atK l s t := ⟨_, rfl⟩
    rw [← hae] at ha hp his
    obtain ⟨y, hy⟩ : ∃ y : Lk, y = { lkAt l a with mask := (lkAt l a).mask ||| bitK v } := ⟨_, rfl⟩
    rw [← hy] at hp
    have ys : y.s = (lkAt l a).s := by rw [hy]
    have yt : y.t = (lkAt l a).t := by rw [hy]
    have ym : y.mask = (lkAt l a).mask ||| bitK v := by rw [hy]
    have hat : ∀ i, lkAt (putK l s t v) i = if i = a then y else lkAt l i := fun i => by rw [hp]; exact lkAt_set ha
    have hst : ∀ i, (lkAt (putK l s t v) i).s = (lkAt l i).s ∧ (lkAt (putK l s t v) i).t = (lkAt l i).t := fun i => by
      rw [hat]
      by_cases e : i = a
      · rw [if_pos e, e]; exact ⟨ys, yt⟩
      · rw [if_neg e]; exact ⟨rfl, rfl⟩
    have hlen : (putK l s t v).length = l.length := by rw [hp, List.length_set]
    have hone : ∀ i k, oneB (lkAt (putK l s t v) i) (lkAt (putK l s t v) k) = oneB (lkAt l i) (lkAt l k) := fun i k => by
      unfold oneB
      rw [(hst i).1, (hst i).2, (hst k).1, (hst k).2]
    have hisK : ∀ i, isK s t (lkAt (putK l s t v) i) = isK s t (lkAt l i) := fun i => by unfold isK; rw [(hst i).1, (hst i).2]
    have hmay : mayL (putK l s t v) = true := by
      refine mayL_iff.2 ⟨fun i hi => ?_, by omega⟩
      rw [hlen] at hi
      obtain ⟨⟨o1, o2, o3⟩, o4⟩ := hk i hi
      refine ⟨⟨by rw [(hst i).1, (hst i).2]; exact o1, ?_⟩, fun k hki => by rw [hone]; exact o4 k hki⟩
      rw [hat]
      by_cases e : i = a
      · rw [if_pos e, ym]
        exact mask_or (hk a ha).1.2.2 (bit_small hv)
      · rw [if_neg e]; exact ⟨o2, o3⟩
    have hata : atK (putK l s t v) s t = a := atk_spec (by omega) (by rw [hisK, hae]; exact at_here (by omega)) (fun k hk' => by rw [hisK]; exact at_ahead (by omega))
    have herr : errK (putK l s t v) s t v = 0 := err_there hmay hv he (by omega)
    refine ⟨fun i hi => ⟨by omega, (hst i).1, (hst i).2, fun e => ?_, fun e => ?_⟩, hmay, herr, ?_, ?_⟩
    · rw [hat, if_neg (fun h => by rw [h, hae, at_here (by omega)] at e; cases e)]
    · have : i = a := may_one hk hi ha (oneB_iff.2 ⟨(isK_iff.1 e).1.trans his.1.symm, (isK_iff.1 e).2.trans his.2.symm⟩)
      rw [hat, if_pos this, ym, this]
    · have hp2 := put_there herr (by omega)
      rw [hata] at hp2
      rw [hp2, hat, if_pos rfl]
      have e2 : ({ y with mask := y.mask ||| bitK v } : Lk) = y := by
        refine Lk.ext rfl rfl ?_
        show y.mask ||| bitK v = y.mask
        rw [ym]
        refine u64_ext fun i => ?_
        simp only [bit_or, Bool.or_assoc, Bool.or_self]
      rw [e2]
      refine lk_ext (by rw [List.length_set]) fun i hi => ?_
      rw [lkAt_set (by omega), hat]
      split <;> rfl
    · unfold whoK
      rw [hata, if_pos (by omega), ← hae, if_pos ha, hat, if_pos rfl, ym]
  · have hp := put_new h ha
    have hr' : l.length < 16 := hr.resolve_left ha
    have hnone : ∀ k, k < l.length → isK s t (lkAt l k) = false := fun k hk => at_ahead (by omega)
    have hlen : (putK l s t v).length = l.length + 1 := by rw [hp, List.length_append]; rfl
    have hat : ∀ i, i < l.length → lkAt (putK l s t v) i = lkAt l i := fun i hi => by rw [hp]; exact lkAt_app hi
    have hlast : lkAt (putK l s t v) l.length = ⟨s, t, bitK v⟩ := by rw [hp]; exact lkAt_last
    have hmay : mayL (putK l s t v) = true := by
      refine mayL_iff.2 ⟨fun i hi => ?_, by omega⟩
      by_cases e : i < l.length
      · rw [hat i e]
        exact ⟨(hk i e).1, fun k hki => by rw [hat k (by omega)]; exact (hk i e).2 k hki⟩
      · obtain rfl : i = l.length := by omega
        rw [hlast]
        refine ⟨⟨he, (bit_small hv).1, by have := (bit_small hv).2; show (bitK v).toNat ≤ 255; omega⟩, fun k hki => ?_⟩
        rw [hat k hki, ← Bool.not_eq_true, oneB_iff]
        intro h2
        have := hnone k hki
        rw [isK_iff.2 ⟨h2.1.symm, h2.2.symm⟩] at this; cases this
    have hata : atK (putK l s t v) s t = l.length := atk_spec (by omega) (by rw [hlast]; exact isK_iff.2 ⟨rfl, rfl⟩) (fun k hk' => by rw [hat k hk']; exact hnone k hk')
    have herr : errK (putK l s t v) s t v = 0 := err_there hmay hv he (by omega)
    refine ⟨fun i hi => ⟨by omega, by rw [hat i hi], by rw [hat i hi], fun _ => by rw [hat i hi], fun e => ?_⟩, hmay, herr, ?_, ?_⟩
    · rw [hnone i hi] at e; cases e
    · have hp2 := put_there herr (by omega)
      rw [hata] at hp2
      rw [hp2, hlast]
      have e2 : ({ (⟨s, t, bitK v⟩ : Lk) with mask := bitK v ||| bitK v } : Lk) = ⟨s, t, bitK v⟩ := by
        refine Lk.ext rfl rfl (u64_ext fun i => ?_)
        show (bitK v ||| bitK v).toNat.testBit i = (bitK v).toNat.testBit i
        rw [bit_or, Bool.or_self]
      show (putK l s t v).set l.length ({ (⟨s, t, bitK v⟩ : Lk) with mask := bitK v ||| bitK v } : Lk) = _
      rw [e2]
      refine lk_ext (by rw [List.length_set]) fun i hi => ?_
      rw [lkAt_set (by omega)]
      split
      · rename_i e; rw [e, hlast]
      · rfl
    · unfold whoK
      rw [hata, if_pos (by omega), if_neg ha, hlast]
      refine u64_ext fun i => ?_
      rw [bit_or]
      simp
end

/-! ### who is guilty -/
theorem and_eq_self {a b : UInt64} (h : subM a b) : a &&& b = a := h
theorem guilt_more (l : List Lk) (x : Lk) : subM (guiltT l) (guiltT (l ++ [x])) := subM_iff.2 fun i hi => by
  obtain ⟨a, b, ha, hb, h⟩ := (guilt_bit i).1 hi
  exact (guilt_bit i).2 ⟨a, b, List.mem_append_left _ ha, List.mem_append_left _ hb, h⟩
theorem guilt_turned (l : List Lk) : guiltT l.reverse = guiltT l := u64_ext fun i => by
  rw [Bool.eq_iff_iff, guilt_bit, guilt_bit]
  exact ⟨fun ⟨a, b, ha, hb, h⟩ => ⟨a, b, List.mem_reverse.1 ha, List.mem_reverse.1 hb, h⟩, fun ⟨a, b, ha, hb, h⟩ => ⟨a, b, List.mem_reverse.2 ha, List.mem_reverse.2 hb, h⟩⟩
/-- All masks of the last n, backward. -/
def orM (l : List Lk) : Nat → UInt64
  | 0 => 0
  | n + 1 => orM l n ||| (lkAt l (l.length - 1 - n)).mask
theorem orM_bit (l : List Lk) (j : Nat) : ∀ n, n ≤ l.length → ∀ k, l.length - n ≤ k → k < l.length → (lkAt l k).mask.toNat.testBit j = true → (orM l n).toNat.testBit j = true
  | 0, _, k, h1, h2, _ => by omega
  | n + 1, hn, k, h1, h2, hb => by
    show (orM l n ||| (lkAt l (l.length - 1 - n)).mask).toNat.testBit j = true
    rw [bit_or, Bool.or_eq_true]
    by_cases e : k = l.length - 1 - n
    · exact .inr (by rw [← e]; exact hb)
    · exact .inl (orM_bit l j n (by omega) k (by omega) h2 hb)
theorem guilt_some (l : List Lk) : subM (guiltT l) (orM l l.length) := subM_iff.2 fun i hi => by
  obtain ⟨a, b, ha, _, _, h1, _⟩ := (guilt_bit i).1 hi
  obtain ⟨k, hk, rfl⟩ := List.getElem_of_mem ha
  exact orM_bit l i l.length (Nat.le_refl _) k (by omega) hk (by rw [lkAt_in hk]; exact h1)
/-- The bit of one that attested two that clash, of the first n, each against those ahead of it. -/
def pairB (l : List Lk) (b : UInt64) (i k : Nat) : Bool := (decide ((lkAt l i).mask &&& b ≠ 0) && decide ((lkAt l k).mask &&& b ≠ 0)) && clashB (lkAt l i) (lkAt l k)
def someIn (l : List Lk) (b : UInt64) (i : Nat) : Nat → Bool → Bool
  | 0, g => g
  | k + 1, g => someIn l b i k g || pairB l b i k
def someK (l : List Lk) (b : UInt64) : Nat → Bool
  | 0 => false
  | i + 1 => someIn l b i i (someK l b i)
theorem someIn_iff (l : List Lk) (b : UInt64) (i : Nat) (g : Bool) : ∀ k, someIn l b i k g = true ↔ g = true ∨ ∃ m, m < k ∧ pairB l b i m = true
  | 0 => ⟨fun h => .inl h, fun h => h.elim id fun ⟨m, hm, _⟩ => absurd hm (Nat.not_lt_zero _)⟩
  | k + 1 => by
    show (someIn l b i k g || pairB l b i k) = true ↔ _
    rw [Bool.or_eq_true, someIn_iff l b i g k]
    constructor
    · rintro ((h | ⟨m, h1, h2⟩) | h)
      · exact .inl h
      · exact .inr ⟨m, by omega, h2⟩
      · exact .inr ⟨k, by omega, h⟩
    · rintro (h | ⟨m, h1, h2⟩)
      · exact .inl (.inl h)
      · by_cases e : m = k
        · subst e; exact .inr h2
        · exact .inl (.inr ⟨m, by omega, h2⟩)
theorem someK_iff (l : List Lk) (b : UInt64) : ∀ n, someK l b n = true ↔ ∃ i m, i < n ∧ m < i ∧ pairB l b i m = true
  | 0 => ⟨fun h => (by cases h), fun ⟨i, _, hi, _⟩ => absurd hi (Nat.not_lt_zero _)⟩
  | n + 1 => by
    show someIn l b n n (someK l b n) = true ↔ _
    rw [someIn_iff, someK_iff l b n]
    constructor
    · rintro (⟨i, m, h1, h2⟩ | ⟨m, h1, h2⟩)
      · exact ⟨i, m, by omega, h2⟩
      · exact ⟨n, m, by omega, h1, h2⟩
    · rintro ⟨i, m, h1, h2, h3⟩
      by_cases e : i = n
      · subst e; exact .inr ⟨m, h2, h3⟩
      · exact .inl ⟨i, m, by omega, h2, h3⟩
theorem and_bitK (a : UInt64) {v : Nat} (hv : v < 64) : (a &&& bitK (v : Int) ≠ 0) ↔ a.toNat.testBit v = true := by
  have e : (bitK (v : Int)).toNat = 2 ^ v := by rw [bitK_nat, bitN_nat hv]
  have e2 : ∀ i, (2 ^ v).testBit i = decide (v = i) := fun i => Nat.testBit_two_pow
  constructor
  · intro h
    rw [← Bool.not_eq_false]
    intro h0
    refine h (u64_ext fun i => ?_)
    rw [bit_and, e, e2]
    by_cases hi : v = i
    · subst hi; rw [h0]; simp
    · rw [decide_eq_false hi]; simp
  · intro h h0
    have := congrArg (fun x : UInt64 => x.toNat.testBit v) h0
    simp only [bit_and, e, e2, h] at this
    simp at this
/-- LinkGuilty. -/
theorem law_guilty (l : List Lk) {v : Nat} (hv : v < 8) : decide (guiltT l &&& bitK (v : Int) ≠ 0) = someK l (bitK (v : Int)) l.length := by
  rw [Bool.eq_iff_iff, decide_eq_true_iff, and_bitK _ (by omega), someK_iff]
  unfold guiltT
  rw [guiltF_bit]
  have hp : ∀ i m, pairB l (bitK (v : Int)) i m = true ↔ clashB (lkAt l i) (lkAt l m) = true ∧ (lkAt l i).mask.toNat.testBit v = true ∧ (lkAt l m).mask.toNat.testBit v = true := fun i m => by
    unfold pairB
    rw [Bool.and_eq_true, Bool.and_eq_true, decide_eq_true_iff, decide_eq_true_iff, and_bitK _ (by omega), and_bitK _ (by omega)]
    exact ⟨fun h => ⟨h.2, h.1⟩, fun h => ⟨h.2, h.1⟩⟩
  exact ⟨fun ⟨i, m, h1, h2, h⟩ => ⟨i, m, h1, h2, (hp i m).2 h⟩, fun ⟨i, m, h1, h2, h⟩ => ⟨i, m, h1, h2, (hp i m).1 h⟩⟩
/-- LinkClash. -/
theorem law_clash (a b : Lk) : (a.t.epoch.toNat = b.t.epoch.toNat → oneB a b = true ∨ clashB a b = true) ∧ (a.s.epoch.toNat < a.t.epoch.toNat → a.t.epoch.toNat ≤ b.s.epoch.toNat → b.s.epoch.toNat < b.t.epoch.toNat → clashB a b = false) := by
  unfold clashB roundB
  constructor
  · intro h
    cases e : oneB a b
    · right
      rw [decide_eq_true (UInt64.toNat_inj.1 h)]; rfl
    · exact .inl rfl
  · intro h1 h2 h3
    rw [decide_eq_false (fun h => by rw [h] at h1 h2; omega), decide_eq_false (by omega), decide_eq_false (by omega), Bool.and_false]; rfl

/-! ### LinkHonest -/
def ckAt (l : List Ck) (i : Nat) : Ck := l.getD i zcc
/-- The first n links of a row of checkpoints. -/
def chainK (l : List Ck) (b : UInt64) (n : Nat) : List Lk := (List.range n).map fun i => ⟨ckAt l i, ckAt l (i + 1), b⟩
theorem chainK_len (l : List Ck) (b : UInt64) (n : Nat) : (chainK l b n).length = n := by simp [chainK]
theorem chainK_succ (l : List Ck) (b : UInt64) (n : Nat) : chainK l b (n + 1) = chainK l b n ++ [⟨ckAt l n, ckAt l (n + 1), b⟩] := by simp [chainK, List.range_succ]
theorem chainK_at (l : List Ck) (b : UInt64) {n i : Nat} (h : i < n) : lkAt (chainK l b n) i = ⟨ckAt l i, ckAt l (i + 1), b⟩ := by
  rw [lkAt_in (by rw [chainK_len]; exact h)]
  simp [chainK]
/-- Rising. -/
def RiseK (l : List Ck) (n : Nat) : Prop := ∀ i, i < n → (ckAt l i).epoch.toNat < (ckAt l (i + 1)).epoch.toNat
theorem rise_le {l : List Ck} {n : Nat} (h : RiseK l n) : ∀ {i k : Nat}, i ≤ k → k ≤ n → (ckAt l i).epoch.toNat ≤ (ckAt l k).epoch.toNat := by
  intro i k
  induction k with
  | zero => intro h1 _; obtain rfl : i = 0 := by omega
            exact Nat.le_refl _
  | succ k ih =>
    intro h1 h2
    by_cases e : i = k + 1
    · subst e; exact Nat.le_refl _
    · have := ih (by omega) (by omega)
      have := h k (by omega)
      omega
theorem chain_may {l : List Ck} {v : Int} (hv : 0 ≤ v ∧ v < 8) {n : Nat} (hr : RiseK l n) (hn : n ≤ 16) : mayL (chainK l (bitK v) n) = true := by
  refine mayL_iff.2 ⟨?_, by rw [chainK_len]; exact hn⟩
  rw [chainK_len]
  intro i hi
  rw [chainK_at l _ hi]
  refine ⟨⟨hr i hi, (bit_small hv).1, by have := (bit_small hv).2; show (bitK v).toNat ≤ 255; omega⟩, fun k hk => ?_⟩
  rw [chainK_at l _ (by omega), ← Bool.not_eq_true, oneB_iff]
  rintro ⟨h1, _⟩
  have h2 := hr k (by omega)
  have h3 := rise_le hr (show k + 1 ≤ i by omega) (by omega)
  have h4 : ckAt l i = ckAt l k := h1
  rw [h4] at h3
  omega
theorem chain_put {l : List Ck} {v : Int} (hv : 0 ≤ v ∧ v < 8) {n : Nat} (hr : RiseK l (n + 1)) (hn : n < 16) :
    errK (chainK l (bitK v) n) (ckAt l n) (ckAt l (n + 1)) v = 0 ∧ putK (chainK l (bitK v) n) (ckAt l n) (ckAt l (n + 1)) v = chainK l (bitK v) (n + 1) := by
  have hr' : RiseK l n := fun i hi => hr i (by omega)
  have hm := chain_may hv hr' (by omega)
  have hnone : atK (chainK l (bitK v) n) (ckAt l n) (ckAt l (n + 1)) = (chainK l (bitK v) n).length := at_none fun k hk => by
    rw [chainK_len] at hk
    rw [chainK_at l _ hk, ← Bool.not_eq_true, isK_iff]
    rintro ⟨h1, _⟩
    have h2 := hr k (by omega)
    have h3 := rise_le hr (show k + 1 ≤ n by omega) (by omega)
    have h4 : ckAt l k = ckAt l n := h1
    rw [h4] at h2
    omega
  have ha : ¬ atK (chainK l (bitK v) n) (ckAt l n) (ckAt l (n + 1)) < (chainK l (bitK v) n).length := by omega
  have he := err_new hm hv (hr n (by omega)) ha (by rw [chainK_len]; omega)
  exact ⟨he, by rw [put_new he ha, chainK_succ]⟩
theorem chain_free {l : List Ck} {b : UInt64} {n : Nat} (hr : RiseK l n) : guiltT (chainK l b n) = 0 := u64_ext fun i => by
  have h0 : (0 : UInt64).toNat.testBit i = false := by simp
  rw [h0, ← Bool.not_eq_true, guilt_bit]
  rintro ⟨x, y, hx, hy, hc, _⟩
  obtain ⟨p, hp, rfl⟩ := List.getElem_of_mem hx
  obtain ⟨q, hq, rfl⟩ := List.getElem_of_mem hy
  have hp' : p < n := by rw [chainK_len] at hp; exact hp
  have hq' : q < n := by rw [chainK_len] at hq; exact hq
  rw [← lkAt_in hp, ← lkAt_in hq, chainK_at l b hp', chainK_at l b hq'] at hc
  have key : ∀ p q, p < q → q < n → clashB (⟨ckAt l p, ckAt l (p + 1), b⟩ : Lk) ⟨ckAt l q, ckAt l (q + 1), b⟩ = false := fun p q h1 h2 =>
    (law_clash _ _).2 (hr p (by omega)) (rise_le hr (show p + 1 ≤ q by omega) (by omega)) (hr q h2)
  rcases Nat.lt_trichotomy p q with h | h | h
  · rw [key p q h hq'] at hc; cases hc
  · subst h; rw [clash_self] at hc; cases hc
  · rw [clash_comm, key q p h hp'] at hc; cases hc
end Go.Proofs.Ytlhnjaeocoafnaa
