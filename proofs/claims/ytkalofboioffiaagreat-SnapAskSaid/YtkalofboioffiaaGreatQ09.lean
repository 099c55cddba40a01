import Derived.Test.YtkalofboioffiaaGreatQ08
namespace Go.Proofs.YtkalofboioffiaaGreat
open Go.RowKit
set_option maxRecDepth 200000
set_option maxHeartbeats 64000000
def zb9 (l : List Nd) (c d : Ck) : Bool := zb0 l (zal l d.root) (zal l c.root)
section
variable {l : List Nd}
theorem zf6 {c d : Ck} (h : zb9 l c d = true) : ∃ i k : Nat, MayT l ∧ zal l d.root = i ∧ zal l c.root = k ∧ i < l.length ∧ k < l.length ∧ zao l i k = true := by
 unfold zb9 zb0 at h
 rw [Bool.and_eq_true, Bool.and_eq_true, zdi, zdi] at h
 exact ⟨(zal l d.root).toNat, (zal l c.root).toNat, h.1.1.1, by omega, by omega, by omega, by omega, h.2⟩
theorem z81 (hm : MayT l) {c d : Ck} {i k : Nat} (hd : zal l d.root = i) (hc : zal l c.root = k) (hi : i < l.length) (hk : k < l.length) (ha : zao l i k = true) : zb9 l c d = true := by
 unfold zb9
 rw [hd, hc, zb6 hm hi hk]; exact ha
theorem zwz {a b c : Ck} (h : zb9 l a b = true) (k : zb9 l b c = true) : zb9 l a c = true := by
 obtain ⟨i, j, hm, e1, e2, hi, hj, h1⟩ := zf6 h
 obtain ⟨p, q, _, e3, e4, hp, hq, h2⟩ := zf6 k
 obtain rfl : q = i := by omega
 exact z81 hm e3 e2 hp hj (zcr hm h2 j hj h1)
end
section
variable {l : List Nd} {ls : List Lk} {cnt : Lk → Prop} {b : Ck}
end
section
variable (cnt : Lk → Bool)
def z3l (js : List Ck) (k : Lk) : Bool := cnt k && (decide (k.s ∈ js) && !decide (k.t ∈ js))
def zcs (ls : List Lk) (js : List Ck) : Option Lk := ls.find? (z3l cnt js)
def zex (ls : List Lk) : Nat → List Ck → List Ck
 | 0, js => js
 | f + 1, js => match zcs cnt ls js with
  | none => js
  | some k => zex ls f (js ++ [k.t])
def zqm (ls : List Lk) (js : List Ck) : List Ck := zex cnt ls ls.length js
def zn7 (ls : List Lk) (js : List Ck) : Nat := (ls.filter fun k => !decide (k.t ∈ js)).length
end
section
variable {cnt : Lk → Bool} {ls : List Lk}
theorem zlq {js : List Ck} {k : Lk} (h : zcs cnt ls js = some k) : k ∈ ls ∧ cnt k = true ∧ k.s ∈ js ∧ k.t ∉ js := by
 have h1 := List.find?_some h
 have h2 := List.mem_of_find?_eq_some h
 unfold z3l at h1
 rw [Bool.and_eq_true, Bool.and_eq_true, decide_eq_true_iff, Bool.not_eq_true', decide_eq_false_iff_not] at h1
 exact ⟨h2, h1.1, h1.2.1, h1.2.2⟩
theorem yha {js : List Ck} (h : zcs cnt ls js = none) {k : Lk} (hk : k ∈ ls) (hc : cnt k = true) (hs : k.s ∈ js) : k.t ∈ js := by
 have := (List.find?_eq_none.1 h) k hk
 unfold z3l at this
 rw [hc, decide_eq_true hs, Bool.true_and, Bool.true_and, Bool.not_eq_true', decide_eq_false_iff_not] at this
 exact Classical.not_not.1 this
theorem zlb {α : Type} (p q : α → Bool) (hpq : ∀ a, q a = true → p a = true) {x : α} : ∀ (l : List α), x ∈ l → p x = true → q x = false → (l.filter q).length < (l.filter p).length
 | [], hx, _, _ => by cases hx
 | a :: l, hx, h1, h2 => by
  have le : ∀ m : List α, (m.filter q).length ≤ (m.filter p).length := by
   intro m
   induction m with
   | nil => exact Nat.le_refl _
   | cons b m ih =>
    rw [List.filter_cons, List.filter_cons]
    by_cases hq : q b = true
    ·
     rw [if_pos hq, if_pos (hpq b hq), List.length_cons, List.length_cons]; omega
    ·
     rw [if_neg hq]
     split
     ·
      rw [List.length_cons]; omega
     ·
      exact ih
  rw [List.filter_cons, List.filter_cons]
  by_cases e : a = x
  ·
   subst e
   rw [if_pos h1, if_neg (by rw [h2]; exact Bool.false_ne_true), List.length_cons]
   have := le l
   omega
  ·
   have hx' : x ∈ l := (List.mem_cons.1 hx).resolve_left (fun e2 => e e2.symm)
   have ih := zlb p q hpq l hx' h1 h2
   by_cases hq : q a = true
   ·
    rw [if_pos hq, if_pos (hpq a hq), List.length_cons, List.length_cons]; omega
   ·
    rw [if_neg hq]
    split
    ·
     rw [List.length_cons]; omega
    ·
     exact ih
theorem zfw {js : List Ck} {k : Lk} (h : zcs cnt ls js = some k) : zn7 ls (js ++ [k.t]) < zn7 ls js := by
 obtain ⟨h1, _, _, h4⟩ := zlq h
 refine zlb _ _ (fun a ha => ?_) ls h1 ?_ ?_
 ·
  rw [Bool.not_eq_true', decide_eq_false_iff_not] at *
  exact fun e => ha (List.mem_append_left _ e)
 ·
  rw [Bool.not_eq_true', decide_eq_false_iff_not]; exact h4
 ·
  rw [Bool.not_eq_false', decide_eq_true_iff]; simp
theorem zvq (js : List Ck) : zn7 ls js ≤ ls.length := List.length_filter_le _ _
theorem zkk : ∀ (f : Nat) (js : List Ck), zn7 ls js ≤ f → zcs cnt ls (zex cnt ls f js) = none
 | 0, js, h => by
  cases e : zcs cnt ls js with
  | none => exact e
  | some k => have := zfw e; omega
 | f + 1, js, h => by
  cases e : zcs cnt ls js with
  | none => simp only [zex, e]
  | some k =>
   have := zfw e
   simp only [zex, e]
   exact zkk f _ (by omega)
theorem zd2 {js : List Ck} (h : zcs cnt ls js = none) (f : Nat) : zex cnt ls f js = js := by
 cases f with
 | zero => rfl
 | succ f => simp only [zex, h]
theorem ybo (js : List Ck) : zqm cnt ls (zqm cnt ls js) = zqm cnt ls js := zd2 (zkk _ _ (zvq js)) _
theorem zyg : ∀ (f g : Nat) (js : List Ck), zn7 ls js ≤ f → zn7 ls js ≤ g → zex cnt ls f js = zex cnt ls g js
 | 0, g, js, h, _ => by
  cases e : zcs cnt ls js with
  | none => rw [zd2 e, zd2 e]
  | some k => have := zfw e; omega
 | f + 1, 0, js, _, h => by
  cases e : zcs cnt ls js with
  | none => rw [zd2 e, zd2 e]
  | some k => have := zfw e; omega
 | f + 1, g + 1, js, h1, h2 => by
  cases e : zcs cnt ls js with
  | none => rw [zd2 e, zd2 e]
  | some k =>
   have := zfw e
   simp only [zex, e]
   exact zyg f g _ (by omega) (by omega)
theorem ybp {js : List Ck} {k : Lk} (h : zcs cnt ls js = some k) : zqm cnt ls js = zqm cnt ls (js ++ [k.t]) := by
 have := zfw h
 have h1 := zvq (ls := ls) js
 obtain ⟨f, hf⟩ : ∃ f, ls.length = f + 1 := ⟨ls.length - 1, by omega⟩
 unfold zqm
 rw [hf]
 rw [show zex cnt ls (f + 1) js = zex cnt ls f (js ++ [k.t]) by simp only [zex, h]]
 exact zyg _ _ _ (by omega) (by omega)
theorem ztf : ∀ (f : Nat) (js : List Ck), ∃ ext, zex cnt ls f js = js ++ ext ∧ ∀ i, i < ext.length → ∃ k, k ∈ ls ∧ cnt k = true ∧ k.s ∈ js ++ ext.take i ∧ some k.t = ext[i]? ∧ k.t ∉ js ++ ext.take i
 | 0, js => ⟨[], by simp [zex], fun i hi => by simp at hi⟩
 | f + 1, js => by
  cases e : zcs cnt ls js with
  | none => exact ⟨[], by simp [zex, e], fun i hi => by simp at hi⟩
  | some k =>
   obtain ⟨h1, h2, h3, h4⟩ := zlq e
   obtain ⟨ext, he, hall⟩ := ztf f (js ++ [k.t])
   refine ⟨k.t :: ext, by simp only [zex, e]; rw [he]; simp, fun i hi => ?_⟩
   cases i with
   | zero => exact ⟨k, h1, h2, by simpa using h3, rfl, by simpa using h4⟩
   | succ i =>
    obtain ⟨m, a, b, c, d, g⟩ := hall i (by simpa using hi)
    exact ⟨m, a, b, by simpa using c, by simpa using d, by simpa using g⟩
def yai (cnt : Lk → Bool) (ls : List Lk) (js : List Ck) (c : Ck) : Bool := ls.any fun k => cnt k && (decide (k.t ∈ js) && (decide (k.s = c) && decide (k.t.epoch.toNat = c.epoch.toNat + 1)))
def zpr (cnt : Lk → Bool) (ls : List Lk) (js : List Ck) : List Ck := js.filter (yai cnt ls js)
def betC (lt : Rt → Rt → Bool) (a b : Ck) : Bool := decide (a.epoch.toNat < b.epoch.toNat) || (decide (b.epoch = a.epoch) && lt a.root b.root)
def zeb (lt : Rt → Rt → Bool) (ok : Ck → Bool) : List Ck → Ck → Ck
 | [], o => o
 | c :: cs, o => zeb lt ok cs (if (ok c && betC lt o c) = true then c else o)
theorem zff (lt : Rt → Rt → Bool) (ok : Ck → Bool) : ∀ (cs : List Ck) (o : Ck), (zeb lt ok cs o = o ∨ (zeb lt ok cs o ∈ cs ∧ ok (zeb lt ok cs o) = true)) ∧ o.epoch.toNat ≤ (zeb lt ok cs o).epoch.toNat ∧ ∀ c, c ∈ cs → ok c = true → c.epoch.toNat ≤ (zeb lt ok cs o).epoch.toNat
 | [], o => ⟨.inl rfl, Nat.le_refl _, fun c hc => (by cases hc)⟩
 | c :: cs, o => by
  rw [show zeb lt ok (c :: cs) o = zeb lt ok cs (if (ok c && betC lt o c) = true then c else o) from rfl]
  by_cases h : (ok c && betC lt o c) = true
  ·
   rw [if_pos h]
   rw [Bool.and_eq_true] at h
   have hle : o.epoch.toNat ≤ c.epoch.toNat := by
    have := h.2
    unfold betC at this
    rw [Bool.or_eq_true, Bool.and_eq_true, decide_eq_true_iff, decide_eq_true_iff] at this
    rcases this with e | e
    ·
     omega
    ·
     rw [e.1]; exact Nat.le_refl _
   obtain ⟨h1, h2, h3⟩ := zff lt ok cs c
   refine ⟨.inr ?_, by omega, fun d hd hok => ?_⟩
   ·
    rcases h1 with e | e
    ·
     rw [e]; exact ⟨List.mem_cons_self, h.1⟩
    ·
     exact ⟨List.mem_cons_of_mem _ e.1, e.2⟩
   ·
    rcases List.mem_cons.1 hd with rfl | hd
    ·
     exact h2
    ·
     exact h3 d hd hok
  ·
   rw [if_neg h]
   obtain ⟨h1, h2, h3⟩ := zff lt ok cs o
   refine ⟨h1.imp id fun e => ⟨List.mem_cons_of_mem _ e.1, e.2⟩, h2, fun d hd hok => ?_⟩
   rcases List.mem_cons.1 hd with rfl | hd
   ·
    have : betC lt o d = false := by
     rw [← Bool.not_eq_true]; intro e; exact h (by rw [hok, e]; rfl)
    unfold betC at this
    rw [Bool.or_eq_false_iff, decide_eq_false_iff_not] at this
    omega
   ·
    exact h3 d hd hok
end
theorem zcy {ls : List Lk} {i : Nat} (h : i < ls.length) : lkAt ls i = ls[i] := by simp [lkAt, h]
theorem z3u {ls : List Lk} {i : Nat} (h : i < ls.length) : lkAt ls i ∈ ls := by rw [zcy h]; exact List.getElem_mem h
theorem yjn {a b : List Lk} (hl : a.length = b.length) (h : ∀ i, i < b.length → lkAt a i = lkAt b i) : a = b := by
 refine List.ext_getElem hl fun i h1 h2 => ?_
 have := h i h2
 rwa [zcy h1, zcy h2] at this
theorem ygs {a b : List Lk} {i : Nat} (h : i < a.length) : lkAt (a ++ b) i = lkAt a i := by
 rw [zcy h, zcy (by rw [List.length_append]; omega), List.getElem_append_left h]
theorem ybd {a : List Lk} {x : Lk} : lkAt (a ++ [x]) a.length = x := by
 rw [zcy (by rw [List.length_append]; simp)]; simp
theorem zvd {a : List Lk} {i k : Nat} {x : Lk} (h : i < a.length) : lkAt (a.set i x) k = if k = i then x else lkAt a k := by
 unfold lkAt
 rw [List.getD_eq_getElem?_getD, List.getD_eq_getElem?_getD, List.getElem?_set]
 by_cases e : k = i
 ·
  subst e; rw [if_pos rfl, if_pos rfl, if_pos h]; rfl
 ·
  rw [if_neg (fun h => e h.symm), if_neg e]
def okK (x : Lk) : Prop := x.s.epoch.toNat < x.t.epoch.toNat ∧ 1 ≤ x.mask.toNat ∧ x.mask.toNat ≤ 255
instance (x : Lk) : Decidable (okK x) := by unfold okK; exact inferInstance
def MayK (l : List Lk) (n : Nat) : Prop := ∀ i, i < n → okK (lkAt l i) ∧ ∀ k, k < i → oneB (lkAt l i) (lkAt l k) = false
instance (l : List Lk) (n : Nat) : Decidable (MayK l n) := by unfold MayK; exact inferInstance
def mayL (l : List Lk) : Bool := decide (MayK l l.length ∧ l.length ≤ 16)
theorem zd1 {l : List Lk} : mayL l = true ↔ MayK l l.length ∧ l.length ≤ 16 := by unfold mayL; rw [decide_eq_true_iff]
theorem zlu {a b : Lk} : oneB a b = true ↔ a.s = b.s ∧ a.t = b.t := by unfold oneB; rw [decide_eq_true_iff]
theorem yb7 (a b : Lk) : oneB a b = oneB b a := by
 rw [Bool.eq_iff_iff, zlu, zlu]
 exact ⟨fun h => ⟨h.1.symm, h.2.symm⟩, fun h => ⟨h.1.symm, h.2.symm⟩⟩
theorem ymy {l : List Lk} {n i k : Nat} (h : MayK l n) (hi : i < n) (hk : k < n) (e : oneB (lkAt l i) (lkAt l k) = true) : i = k := by
 rcases Nat.lt_trichotomy i k with h1 | h1 | h1
 ·
  have := (h k hk).2 i h1
  rw [yb7, e] at this; cases this
 ·
  exact h1
 ·
  have := (h i hi).2 k h1
  rw [e] at this; cases this
def isK (s t : Ck) (x : Lk) : Bool := decide (x.s = s ∧ x.t = t)
def atK (l : List Lk) (s t : Ck) : Nat := l.findIdx (isK s t)
def bitK (v : Int) : UInt64 := UInt64.ofNat (bitN v)
theorem yev (v : Int) : (bitK v).toNat = bitN v := by
 unfold bitK
 rw [UInt64.toNat_ofNat', Nat.mod_eq_of_lt (ykx v)]
def errK (l : List Lk) (s t : Ck) (v : Int) : Nat :=
 if mayL l = true then (if 0 ≤ v ∧ v < 8 then (if s.epoch.toNat < t.epoch.toNat then (if atK l s t < l.length then 0 else if l.length = 16 then 3 else 0) else 9) else 10) else 1
def putK (l : List Lk) (s t : Ck) (v : Int) : List Lk :=
 if errK l s t v = 0 then (if atK l s t < l.length then l.set (atK l s t) { lkAt l (atK l s t) with mask := (lkAt l (atK l s t)).mask ||| bitK v } else l ++ [⟨s, t, bitK v⟩]) else l
def whoK (l : List Lk) (s t : Ck) : UInt64 := if atK l s t < l.length then (lkAt l (atK l s t)).mask else 0
section
variable {l : List Lk} {s t : Ck} {v : Int}
theorem zp5 {x : Lk} : isK s t x = true ↔ x.s = s ∧ x.t = t := by unfold isK; rw [decide_eq_true_iff]
theorem ysr : atK l s t ≤ l.length := List.findIdx_le_length
theorem zt3 (h : atK l s t < l.length) : isK s t (lkAt l (atK l s t)) = true := by
 rw [zcy h]; exact List.findIdx_getElem
theorem zt2 {k : Nat} (h : k < atK l s t) : isK s t (lkAt l k) = false := by
 have h2 : k < l.length := Nat.lt_of_lt_of_le h ysr
 rw [zcy h2]
 have := List.not_of_lt_findIdx h
 simpa using this
theorem z2u {i : Nat} (hi : i < l.length) (h : isK s t (lkAt l i) = true) (ha : ∀ k, k < i → isK s t (lkAt l k) = false) : atK l s t = i := by
 rcases Nat.lt_trichotomy (atK l s t) i with h1 | h1 | h1
 ·
  have := ha _ h1
  rw [zt3 (by omega)] at this; cases this
 ·
  exact h1
 ·
  have := zt2 h1
  rw [h] at this; cases this
theorem ylq (h : mayL l = false) : errK l s t v = 1 := by unfold errK; rw [if_neg (by rw [h]; exact Bool.false_ne_true)]
theorem ylr (h : mayL l = true) (hv : ¬ (0 ≤ v ∧ v < 8)) : errK l s t v = 10 := by unfold errK; rw [if_pos h, if_neg hv]
theorem yf9 (h : mayL l = true) (hv : 0 ≤ v ∧ v < 8) (he : ¬ s.epoch.toNat < t.epoch.toNat) : errK l s t v = 9 := by unfold errK; rw [if_pos h, if_pos hv, if_neg he]
theorem zxg (h : mayL l = true) (hv : 0 ≤ v ∧ v < 8) (he : s.epoch.toNat < t.epoch.toNat) (ha : atK l s t < l.length) : errK l s t v = 0 := by unfold errK; rw [if_pos h, if_pos hv, if_pos he, if_pos ha]
theorem yf8 (h : mayL l = true) (hv : 0 ≤ v ∧ v < 8) (he : s.epoch.toNat < t.epoch.toNat) (ha : ¬ atK l s t < l.length) (hl : l.length = 16) : errK l s t v = 3 := by unfold errK; rw [if_pos h, if_pos hv, if_pos he, if_neg ha, if_pos hl]
theorem yga (h : errK l s t v = 0) : mayL l = true ∧ (0 ≤ v ∧ v < 8) ∧ s.epoch.toNat < t.epoch.toNat ∧ (atK l s t < l.length ∨ l.length < 16) := by
 have hm : mayL l = true := by
  cases e : mayL l
  ·
   rw [ylq e] at h; omega
  ·
   rfl
 have hl := (zd1.1 hm).2
 by_cases hv : 0 ≤ v ∧ v < 8
 ·
  by_cases he : s.epoch.toNat < t.epoch.toNat
  ·
   refine ⟨hm, hv, he, ?_⟩
   by_cases ha : atK l s t < l.length
   ·
    exact .inl ha
   ·
    refine .inr ?_
    by_cases hq : l.length = 16
    ·
     rw [yf8 hm hv he ha hq] at h; omega
    ·
     omega
  ·
   rw [yf9 hm hv he] at h; omega
 ·
  rw [ylr hm hv] at h; omega
theorem ynk (h : errK l s t v ≠ 0) : putK l s t v = l := by unfold putK; rw [if_neg h]
theorem zlx (h : errK l s t v = 0) (ha : atK l s t < l.length) : putK l s t v = l.set (atK l s t) { lkAt l (atK l s t) with mask := (lkAt l (atK l s t)).mask ||| bitK v } := by unfold putK; rw [if_pos h, if_pos ha]
theorem ycp (h : errK l s t v = 0) (ha : ¬ atK l s t < l.length) : putK l s t v = l ++ [⟨s, t, bitK v⟩] := by unfold putK; rw [if_pos h, if_neg ha]
theorem zo9 (hv : 0 ≤ v ∧ v < 8) : 1 ≤ (bitK v).toNat ∧ (bitK v).toNat < 2 ^ 8 := by
 obtain ⟨n, rfl⟩ : ∃ n : Nat, v = n := ⟨v.toNat, by omega⟩
 rw [yev, zof (by omega)]
 exact ⟨Nat.two_pow_pos n, Nat.pow_lt_pow_right (by decide) (by omega)⟩
theorem ymw {a b : UInt64} (ha : a.toNat ≤ 255) (hb : 1 ≤ b.toNat ∧ b.toNat < 2 ^ 8) : 1 ≤ (a ||| b).toNat ∧ (a ||| b).toNat ≤ 255 := by
 rw [UInt64.toNat_or]
 have h1 := Nat.or_lt_two_pow (show a.toNat < 2 ^ 8 by omega) hb.2
 have h2 : b.toNat ≤ a.toNat ||| b.toNat := Nat.right_le_or
 omega
theorem yml (h : errK l s t v = 0) :
  (∀ i, i < l.length → i < (putK l s t v).length ∧ (lkAt (putK l s t v) i).s = (lkAt l i).s ∧ (lkAt (putK l s t v) i).t = (lkAt l i).t ∧ (isK s t (lkAt l i) = false → (lkAt (putK l s t v) i).mask = (lkAt l i).mask) ∧ (isK s t (lkAt l i) = true → (lkAt (putK l s t v) i).mask = (lkAt l i).mask ||| bitK v)) ∧
  mayL (putK l s t v) = true ∧ errK (putK l s t v) s t v = 0 ∧ putK (putK l s t v) s t v = putK l s t v ∧ whoK (putK l s t v) s t = whoK l s t ||| bitK v := by
 obtain ⟨hm, hv, he, hr⟩ := yga h
 obtain ⟨hk, h16⟩ := zd1.1 hm
 by_cases ha : atK l s t < l.length
 ·
  have hp := zlx h ha
  have his := zp5.1 (zt3 ha)
  obtain ⟨a, hae⟩ : ∃ a, a = atK l s t := ⟨_, rfl⟩
  rw [← hae] at ha hp his
  obtain ⟨y, hy⟩ : ∃ y : Lk, y = { lkAt l a with mask := (lkAt l a).mask ||| bitK v } := ⟨_, rfl⟩
  rw [← hy] at hp
  have ys : y.s = (lkAt l a).s := by rw [hy]
  have yt : y.t = (lkAt l a).t := by rw [hy]
  have ym : y.mask = (lkAt l a).mask ||| bitK v := by rw [hy]
  have hat : ∀ i, lkAt (putK l s t v) i = if i = a then y else lkAt l i := fun i => by rw [hp]; exact zvd ha
  have hst : ∀ i, (lkAt (putK l s t v) i).s = (lkAt l i).s ∧ (lkAt (putK l s t v) i).t = (lkAt l i).t := fun i => by
   rw [hat]
   by_cases e : i = a
   ·
    rw [if_pos e, e]; exact ⟨ys, yt⟩
   ·
    rw [if_neg e]; exact ⟨rfl, rfl⟩
  have hlen : (putK l s t v).length = l.length := by rw [hp, List.length_set]
  have hone : ∀ i k, oneB (lkAt (putK l s t v) i) (lkAt (putK l s t v) k) = oneB (lkAt l i) (lkAt l k) := fun i k => by
   unfold oneB
   rw [(hst i).1, (hst i).2, (hst k).1, (hst k).2]
  have hisK : ∀ i, isK s t (lkAt (putK l s t v) i) = isK s t (lkAt l i) := fun i => by unfold isK; rw [(hst i).1, (hst i).2]
  have hmay : mayL (putK l s t v) = true := by
   refine zd1.2 ⟨fun i hi => ?_, by omega⟩
   rw [hlen] at hi
   obtain ⟨⟨o1, o2, o3⟩, o4⟩ := hk i hi
   refine ⟨⟨by rw [(hst i).1, (hst i).2]; exact o1, ?_⟩, fun k hki => by rw [hone]; exact o4 k hki⟩
   rw [hat]
   by_cases e : i = a
   ·
    rw [if_pos e, ym]
    exact ymw (hk a ha).1.2.2 (zo9 hv)
   ·
    rw [if_neg e]; exact ⟨o2, o3⟩
  have hata : atK (putK l s t v) s t = a := z2u (by omega) (by rw [hisK, hae]; exact zt3 (by omega)) (fun k hk' => by rw [hisK]; exact zt2 (by omega))
  have herr : errK (putK l s t v) s t v = 0 := zxg hmay hv he (by omega)
  refine ⟨fun i hi => ⟨by omega, (hst i).1, (hst i).2, fun e => ?_, fun e => ?_⟩, hmay, herr, ?_, ?_⟩
  ·
   rw [hat, if_neg (fun h => by rw [h, hae, zt3 (by omega)] at e; cases e)]
  ·
   have : i = a := ymy hk hi ha (zlu.2 ⟨(zp5.1 e).1.trans his.1.symm, (zp5.1 e).2.trans his.2.symm⟩)
   rw [hat, if_pos this, ym, this]
  ·
   have hp2 := zlx herr (by omega)
   rw [hata] at hp2
   rw [hp2, hat, if_pos rfl]
   have e2 : ({ y with mask := y.mask ||| bitK v } : Lk) = y := by
    refine Lk.ext rfl rfl ?_
    show y.mask ||| bitK v = y.mask
    rw [ym]
    refine zwl fun i => ?_
    simp only [z2x, Bool.or_assoc, Bool.or_self]
   rw [e2]
   refine yjn (by rw [List.length_set]) fun i hi => ?_
   rw [zvd (by omega), hat]
   split <;> rfl
  ·
   unfold whoK
   rw [hata, if_pos (by omega), ← hae, if_pos ha, hat, if_pos rfl, ym]
 ·
  have hp := ycp h ha
  have hr' : l.length < 16 := hr.resolve_left ha
  have hnone : ∀ k, k < l.length → isK s t (lkAt l k) = false := fun k hk => zt2 (by omega)
  have hlen : (putK l s t v).length = l.length + 1 := by rw [hp, List.length_append]; rfl
  have hat : ∀ i, i < l.length → lkAt (putK l s t v) i = lkAt l i := fun i hi => by rw [hp]; exact ygs hi
  have hlast : lkAt (putK l s t v) l.length = ⟨s, t, bitK v⟩ := by rw [hp]; exact ybd
  have hmay : mayL (putK l s t v) = true := by
   refine zd1.2 ⟨fun i hi => ?_, by omega⟩
   by_cases e : i < l.length
   ·
    rw [hat i e]
    exact ⟨(hk i e).1, fun k hki => by rw [hat k (by omega)]; exact (hk i e).2 k hki⟩
   ·
    obtain rfl : i = l.length := by omega
    rw [hlast]
    refine ⟨⟨he, (zo9 hv).1, by have := (zo9 hv).2; show (bitK v).toNat ≤ 255; omega⟩, fun k hki => ?_⟩
    rw [hat k hki, ← Bool.not_eq_true, zlu]
    intro h2
    have := hnone k hki
    rw [zp5.2 ⟨h2.1.symm, h2.2.symm⟩] at this; cases this
  have hata : atK (putK l s t v) s t = l.length := z2u (by omega) (by rw [hlast]; exact zp5.2 ⟨rfl, rfl⟩) (fun k hk' => by rw [hat k hk']; exact hnone k hk')
  have herr : errK (putK l s t v) s t v = 0 := zxg hmay hv he (by omega)
  refine ⟨fun i hi => ⟨by omega, by rw [hat i hi], by rw [hat i hi], fun _ => by rw [hat i hi], fun e => ?_⟩, hmay, herr, ?_, ?_⟩
  ·
   rw [hnone i hi] at e; cases e
  ·
   have hp2 := zlx herr (by omega)
   rw [hata] at hp2
   rw [hp2, hlast]
   have e2 : ({ (⟨s, t, bitK v⟩ : Lk) with mask := bitK v ||| bitK v } : Lk) = ⟨s, t, bitK v⟩ := by
    refine Lk.ext rfl rfl (zwl fun i => ?_)
    show (bitK v ||| bitK v).toNat.testBit i = (bitK v).toNat.testBit i
    rw [z2x, Bool.or_self]
   show (putK l s t v).set l.length ({ (⟨s, t, bitK v⟩ : Lk) with mask := bitK v ||| bitK v } : Lk) = _
   rw [e2]
   refine yjn (by rw [List.length_set]) fun i hi => ?_
   rw [zvd (by omega)]
   split
   ·
    rename_i e; rw [e, hlast]
   ·
    rfl
  ·
   unfold whoK
   rw [hata, if_pos (by omega), if_neg ha, hlast]
   refine zwl fun i => ?_
   rw [z2x]
   simp
end
def ckAt (l : List Ck) (i : Nat) : Ck := l.getD i zcc
theorem yjm {w : World} {a b : Obj} : Below w.heap.size w ((w.alloc a).alloc b) := ((Below.refl _ _).alloc (Nat.le_refl _) _).alloc (by simp) _
theorem zkm : (∀ a : Rt, zbz a a = false) ∧ (∀ a b c : Rt, zbz a b = true → zbz b c = true → zbz a c = true) ∧ (∀ a b : Rt, a ≠ b → zbz a b = true ∨ zbz b a = true) := by
 refine ⟨zx4, fun a b c h k => z0z h k, fun a b hab => ?_⟩
 cases h : zbz a b
 ·
  cases k : zbz b a
  ·
   exact absurd (ya8 h k) hab
  ·
   exact .inr rfl
 ·
  exact .inl rfl
def zfe (l : List Nd) (ls : List Lk) (bal : List UInt64) : Bool := decide (MayT l) && (mayL ls && mayB bal)
def cntB (l : List Nd) (bal : List UInt64) (k : Lk) : Bool := zb9 l k.t k.s && yg6 bal k.mask
def zc5 (l : List Nd) (ls : List Lk) (bal : List UInt64) (js : List Ck) : List Ck := if zfe l ls bal = true then zqm (cntB l bal) ls js else js
def zcx (l : List Nd) (ls : List Lk) (bal : List UInt64) (js : List Ck) : List Ck := if zfe l ls bal = true then zpr (cntB l bal) ls js else []
def okN (l : List Nd) (fin c : Ck) : Bool := zb9 l c fin && decide (fin.epoch.toNat < c.epoch.toNat)
def zgn (l : List Nd) (ls : List Lk) (bal : List UInt64) (js : List Ck) (fin : Ck) : Ck := zeb zbz (okN l fin) (zcx l ls bal js) fin
def zjz (l : List Nd) (js : List Ck) (fin : Ck) : Ck := zeb zbz (fun c => zb9 l c fin) js fin
section
variable {l : List Nd} {ls : List Lk} {bal : List UInt64} {js : List Ck} {fin : Ck}
theorem zl6 : zfe l ls bal = true ↔ MayT l ∧ mayL ls = true ∧ mayB bal = true := by unfold zfe; rw [Bool.and_eq_true, Bool.and_eq_true, decide_eq_true_iff]
theorem yg2 (h : zfe l ls bal = false) : zc5 l ls bal js = js := by unfold zc5; rw [if_neg (by rw [h]; exact Bool.false_ne_true)]
theorem zlo (h : zfe l ls bal = true) : zc5 l ls bal js = zqm (cntB l bal) ls js := by unfold zc5; rw [if_pos h]
theorem z5w (h : zfe l ls bal = false) : zcx l ls bal js = [] := by unfold zcx; rw [if_neg (by rw [h]; exact Bool.false_ne_true)]
theorem zpq (h : zfe l ls bal = true) : zcx l ls bal js = zpr (cntB l bal) ls js := by unfold zcx; rw [if_pos h]
theorem zu5 : zgn l ls bal js fin = fin ∨ (zgn l ls bal js fin ∈ zcx l ls bal js ∧ zb9 l (zgn l ls bal js fin) fin = true ∧ fin.epoch.toNat < (zgn l ls bal js fin).epoch.toNat) := by
 obtain ⟨h, _, _⟩ := zff zbz (okN l fin) (zcx l ls bal js) fin
 rcases h with h | ⟨h1, h2⟩
 ·
  exact .inl h
 ·
  unfold okN at h2
  rw [Bool.and_eq_true, decide_eq_true_iff] at h2
  exact .inr ⟨h1, h2.1, h2.2⟩
theorem ygn : (zjz l js fin = fin ∨ (zjz l js fin ∈ js ∧ zb9 l (zjz l js fin) fin = true ∧ fin.epoch.toNat ≤ (zjz l js fin).epoch.toNat)) ∧ ∀ c, c ∈ js → zb9 l c fin = true → c.epoch.toNat ≤ (zjz l js fin).epoch.toNat := by
 obtain ⟨h, h2, h3⟩ := zff zbz (fun c => zb9 l c fin) js fin
 exact ⟨h.imp id fun e => ⟨e.1, e.2, h2⟩, h3⟩
end
section
open Go.RowKit
structure Aa where
 val : Int
 slot : UInt64
 head : Rt
 source : Ck
 target : Ck
def aaL (x : Aa) : List Value := [.int .i64 x.val] ++ ([num x.slot] ++ ((rc x.head).toList ++ ((cc x.source).toList ++ ((cc x.target).toList))))
def aa (x : Aa) : Array Value := (aaL x).toArray
theorem zz0 (x : Aa) : (aa x).toList = aaL x := rfl
theorem yi8 (x : Aa) : (aaL x).length = 100 := by simp [aaL, zav, za5]
theorem zmf (x : Aa) : (aa x).size = 100 := by rw [← Array.length_toList, zz0, yi8]
theorem yi9 (x : Aa) : ∀ v ∈ aaL x, v.oneCell' = true := by
 intro v hv
 unfold aaL at hv
 simp only [List.mem_append, List.mem_singleton] at hv
 rcases hv with rfl | rfl | hv | hv | hv
 ·
  rfl
 ·
  rfl
 ·
  exact zis _ v hv
 ·
  exact zgs _ v (by rw [zby] at hv; exact hv)
 ·
  exact zgs _ v (by rw [zby] at hv; exact hv)
@[go_sem] theorem ytt (x : Aa) : okA 100 (.agg (aa x)) = true := by
 show ((aa x).size == 100 && (aa x).all (·.oneCell')) = true
 rw [show (aa x).all (·.oneCell') = true from zea (yi9 x), zmf]; rfl
def zaa : Aa := ⟨0, 0, zr, zcc, zcc⟩
theorem yd9 (w : World) : (zeroValue 113).run Tryz.prog w = .ok (.agg (aa zaa)) w := by kernel_rfl
@[go_sem ↓] theorem ys2 (ρ : Operand → Value) (dst : Option Tmp) (x : Operand) (ty : TypeId) (pos : String) (after : Array Edge) (guard : Option (Nat × Bool)) (w : World) :
  (execOp ρ { dst, op := .load 113 x, type := ty, pos, after, guard }).run Tryz.prog w = zkh (ldA w (ρ x) 100) w (zbn Tryz.prog ρ { dst, op := .load 113 x, type := ty, pos, after, guard } w) :=
 zb2 Tryz.isAgg113 Tryz.sizeOf113 ρ dst x ty pos after guard w
@[go_sem ↓] theorem yr6 (ρ : Operand → Value) (dst : Option Tmp) (x y : Operand) (ty : TypeId) (pos : String) (after : Array Edge) (guard : Option (Nat × Bool)) (w : World) :
  (execOp ρ { dst, op := .store 113 x y, type := ty, pos, after, guard }).run Tryz.prog w = zjo (wrA w (ρ x) 100 && okA 100 (ρ y)) (stA w (ρ x) (ρ y)) (zbn Tryz.prog ρ { dst, op := .store 113 x y, type := ty, pos, after, guard } w) :=
 zbm Tryz.sizeOf113 ρ dst x y ty pos after guard w
@[go_sem ↓] theorem yrh (ρ : Operand → Value) (dst : Option Tmp) (ty : TypeId) (pos : String) (after : Array Edge) (guard : Option (Nat × Bool)) (w : World) :
  (execOp ρ { dst, op := .alloc 113, type := ty, pos, after, guard }).run Tryz.prog w = .ok (.value (.pointer (some ⟨w.heap.size, 0, none⟩))) (w.alloc (.cells (aa zaa) 113)) := by
 unfold execOp
 simp only [Instr.alloc, Sem.run_bind, yd9, Result.andThen_ok]
 rfl
theorem zji : Tryz.prog.underlying 113 = some (.struct (Tryz.prog.fieldsOf 113)) := by kernel_rfl
theorem zpu : (Tryz.prog.fieldsOf 113).toList.map (fun f => (f.name, f.type, f.offset)) = [("Val", 3, 0), ("Slot", 27, 1), ("Head", 34, 2), ("Source", 36, 34), ("Target", 36, 67)] := by kernel_rfl
attribute [go_sem] zmf
theorem zsf (x : Aa) : aaL x = ([.int .i64 x.val]) ++ ([num x.slot] ++ ((rc x.head).toList ++ ((cc x.source).toList ++ ((cc x.target).toList)))) ∧ ([.int .i64 x.val] : List Value).length = 1 := by
 constructor
 ·
  unfold aaL; simp
 ·
  simp
theorem z4x {w : World} {b off : Nat} {x : Aa} (h : w.rangeAt b off (aaL x)) : w.cell? ⟨b, off + 1, none⟩ = some (num x.slot) := zbj h (zsf x).1 (zsf x).2
theorem zo3 {w : World} {g : Nat} {t : TypeId} {fr : Nat × Nat} {x : Aa} (h : w.heap[g]? = some (.cells (aa x) t fr)) : w.cell? ⟨g, 1, none⟩ = some (num x.slot) := by have := z4x (x := x) (zai h); rwa [Nat.zero_add] at this
theorem zsr : Tryz.prog.cellsOf 113 = 100 := by kernel_rfl
section
open Go.WideShapes Go.ChangeShapes
variable {H : Type} {enc : TypeId × Value → H} {w : World} {base : Nat} {sp : Nat → Bool} {held : Bool}
theorem ye8 {fuel : Nat} {cs : List Value} {x : DataW H × List MemPlace} (hl : cs.length = 100) (h : DataW.trod enc Tryz.prog w base sp held fuel 113 cs = some x) : ∃ a : Aa, cs = aaL a := by
 obtain ⟨_, _, h0⟩ := zas (i := 0) zji zpu rfl h
 rw [zhb] at h0
 obtain ⟨a0, e0⟩ := zkv h0
 obtain ⟨_, _, h1⟩ := zas (i := 1) zji zpu rfl h
 rw [zce] at h1
 obtain ⟨a1, e1⟩ := zc3 h1
 obtain ⟨_, _, h2⟩ := zas (i := 2) zji zpu rfl h
 rw [zcp] at h2
 obtain ⟨a2, e2⟩ := zc6 h2
 obtain ⟨_, _, h3⟩ := zas (i := 3) zji zpu rfl h
 rw [zcj] at h3
 obtain ⟨a3, e3⟩ := zf9 (by rw [List.length_take, List.length_drop]; omega) h3
 rw [← zby] at e3
 obtain ⟨_, _, h4⟩ := zas (i := 4) zji zpu rfl h
 rw [zcj] at h4
 obtain ⟨a4, e4⟩ := zf9 (by rw [List.length_take, List.length_drop]; omega) h4
 rw [← zby] at e4
 refine ⟨⟨a0, a1, a2, a3, a4⟩, ?_⟩
 unfold aaL
 have j0 := za6 cs 0 1
 rw [e0] at j0
 have j1 := za6 cs 1 1
 rw [e1] at j1
 have j2 := za6 cs 2 32
 rw [e2] at j2
 have j3 := za6 cs 34 33
 rw [e3] at j3
 have j4 := za6 cs 67 33
 rw [e4] at j4
 have jl : cs.drop 100 = [] := List.drop_of_length_le (by omega)
 rw [show (67 + 33) = 100 from rfl, jl, List.append_nil] at j4
 rw [← List.drop_zero (l := cs)]
 rw [← j0]
 rw [show cs.drop (0 + 1) = cs.drop 1 from rfl, ← j1]
 rw [show cs.drop (1 + 1) = cs.drop 2 from rfl, ← j2]
 rw [show cs.drop (2 + 32) = cs.drop 34 from rfl, ← j3]
 rw [show cs.drop (34 + 33) = cs.drop 67 from rfl, ← j4]
 try rfl
end
def Eaa : Lie Aa := ⟨113, 100, aaL, by decide, yi8, yi9⟩
attribute [irreducible] aa
end
end Go.Proofs.YtkalofboioffiaaGreat
