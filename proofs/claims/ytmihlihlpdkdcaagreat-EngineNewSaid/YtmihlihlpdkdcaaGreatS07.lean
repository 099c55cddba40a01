import Derived.Test.YtmihlihlpdkdcaaGreatS06
import Derived.Test.YtmihlihlpdkdcaaGreatS04
import Derived.Test.YtmihlihlpdkdcaaGreatS03
import Derived.Test.YtmihlihlpdkdcaaGreatS01
import Derived.Test.YtmihlihlpdkdcaaGreatS02
namespace Go.Proofs.YtmihlihlpdkdcaaGreat
open Go.RowKit
set_option maxRecDepth 200000
set_option maxHeartbeats 64000000
def forB (l : List Nd) (v : Vt) (i k : Nat) : Bool := (lat v.l k).has && decide ((lat v.l k).root = (nd l i).root)
def newB (l : List Nd) (v o : Vt) (i k : Nat) : Bool := forB l v i k && decide (lat v.l k ≠ lat o.l k)
def selF (p : Nat → Bool) (f : Nat → Nat) (n : Nat) : Nat := sumF (fun k => if p k = true then f k else 0) n
theorem yih {p : Nat → Bool} {f : Nat → Nat} {n : Nat} (h : p n = true) : selF p f (n + 1) = selF p f n + f n := by
 show sumF _ n + (if p n = true then f n else 0) = _
 rw [if_pos h]; rfl
theorem ya8 {p : Nat → Bool} {f : Nat → Nat} {n : Nat} (h : p n = false) : selF p f (n + 1) = selF p f n := by
 show sumF _ n + (if p n = true then f n else 0) = _
 rw [if_neg (by rw [h]; exact Bool.false_ne_true), Nat.add_zero]; rfl
theorem ylh (p : Nat → Bool) (f : Nat → Nat) (n : Nat) : selF p f n ≤ sumF f n := z0h _ fun k _ => by split <;> omega
theorem ztu {f : Nat → Nat} {B : Nat} : ∀ n, (∀ k, k < n → f k ≤ B) → sumF f n ≤ n * B
 | 0, _ => by simp [sumF]
 | n + 1, h => by
  simp only [sumF]
  have h1 := ztu n (fun k hk => h k (by omega))
  have h2 := h n (by omega)
  rw [Nat.add_mul, Nat.one_mul]
  omega
def ownF (l : List Nd) (v : Vt) (bal : List UInt64) (i : Nat) : Nat := selF (forB l v i) (fn bal) bal.length
def zkc (l : List Nd) (v o : Vt) (bal : List UInt64) (i : Nat) : Nat := selF (newB l v o i) (fn bal) bal.length
def fitB (l : List Nd) (v : Vt) (bal : List UInt64) : Bool := decide (MayT l) && (mayV v && (mayB bal && decide (v.l.length = bal.length)))
def ownL (l : List Nd) (v : Vt) (bal : List UInt64) : List UInt64 := if fitB l v bal = true then zcx (ownF l v bal) l.length else []
def wtsL (l : List Nd) (v : Vt) (bal : List UInt64) : List UInt64 := if fitB l v bal = true then subL l (ownL l v bal) else []
def ofB (l : List Nd) (was is : Vt) (bal : List UInt64) : Bool := fitB l was bal && fitB l is bal
def zhh (l : List Nd) (was is : Vt) (bal : List UInt64) : List UInt64 := if ofB l was is bal = true then zcx (zkc l is was bal) l.length else []
def zd3 (l : List Nd) (was is : Vt) (bal : List UInt64) : List UInt64 := if ofB l was is bal = true then zcx (zkc l was is bal) l.length else []
section
variable {l : List Nd} {v o was is : Vt} {bal : List UInt64}
theorem zeg : fitB l v bal = true ↔ MayT l ∧ mayV v = true ∧ mayB bal = true ∧ v.l.length = bal.length := by
 unfold fitB
 rw [Bool.and_eq_true, Bool.and_eq_true, Bool.and_eq_true, decide_eq_true_iff, decide_eq_true_iff]
theorem zqp : ofB l was is bal = true ↔ fitB l was bal = true ∧ fitB l is bal = true := by unfold ofB; rw [Bool.and_eq_true]
theorem zuj (h : fitB l v bal = true) : ownL l v bal = zcx (ownF l v bal) l.length := by unfold ownL; rw [if_pos h]
theorem yl5 (h : fitB l v bal = false) : ownL l v bal = [] := by unfold ownL; rw [if_neg (by rw [h]; exact Bool.false_ne_true)]
theorem zkx (h : fitB l v bal = true) : wtsL l v bal = subL l (ownL l v bal) := by unfold wtsL; rw [if_pos h]
theorem yno (h : fitB l v bal = false) : wtsL l v bal = [] := by unfold wtsL; rw [if_neg (by rw [h]; exact Bool.false_ne_true)]
theorem zlb (h : ofB l was is bal = true) : zhh l was is bal = zcx (zkc l is was bal) l.length := by unfold zhh; rw [if_pos h]
theorem z20 (h : ofB l was is bal = false) : zhh l was is bal = [] := by unfold zhh; rw [if_neg (by rw [h]; exact Bool.false_ne_true)]
theorem zm1 (h : ofB l was is bal = true) : zd3 l was is bal = zcx (zkc l was is bal) l.length := by unfold zd3; rw [if_pos h]
theorem ybe (h : ofB l was is bal = false) : zd3 l was is bal = [] := by unfold zd3; rw [if_neg (by rw [h]; exact Bool.false_ne_true)]
theorem yne (h : mayB bal = true) {k : Nat} (hk : k ≤ bal.length) : sumF (fn bal) k ≤ 8796093022208 := by
 obtain ⟨_, h2, h3⟩ := zcy.1 h
 have := ztu (f := fn bal) (B := 1099511627776) k (fun j hj => h3 j (by omega))
 omega
theorem zw8 (h : mayB bal = true) (p : Nat → Bool) {k : Nat} (hk : k ≤ bal.length) : selF p (fn bal) k ≤ 8796093022208 := Nat.le_trans (ylh _ _ _) (yne h hk)
theorem zp6 (h : mayB bal = true) (i : Nat) : ownF l v bal i ≤ 8796093022208 := zw8 h _ (Nat.le_refl _)
theorem zms (h : mayB bal = true) (i : Nat) : zkc l v o bal i ≤ 8796093022208 := zw8 h _ (Nat.le_refl _)
theorem z3k (h : fitB l v bal = true) {i : Nat} (hi : i < l.length) : fn (ownL l v bal) i = ownF l v bal i := by
 rw [zuj h]
 exact zmy hi (by have := zp6 (l := l) (v := v) (zeg.1 h).2.2.1 i; omega)
theorem yme (h : ofB l was is bal = true) {i : Nat} (hi : i < l.length) : fn (zhh l was is bal) i = zkc l is was bal i := by
 rw [zlb h]
 exact zmy hi (by have := zms (l := l) (v := is) (o := was) (zeg.1 (zqp.1 h).1).2.2.1 i; omega)
theorem yij (h : ofB l was is bal = true) {i : Nat} (hi : i < l.length) : fn (zd3 l was is bal) i = zkc l was is bal i := by
 rw [zm1 h]
 exact zmy hi (by have := zms (l := l) (v := was) (o := is) (zeg.1 (zqp.1 h).1).2.2.1 i; omega)
theorem z2q (h : fitB l v bal = true) : (ownL l v bal).length = l.length := by rw [zuj h, zes]
theorem yii (h : ofB l was is bal = true) : (zhh l was is bal).length = l.length := by rw [zlb h, zes]
theorem yco (h : ofB l was is bal = true) : (zd3 l was is bal).length = l.length := by rw [zm1 h, zes]
theorem yc8 (h : fitB l v bal = true) : zdc l (ownL l v bal) = true :=
 zda (zeg.1 h).1 (z2q h) (b := 8796093022208) (by omega) fun k hk => by rw [z3k h hk]; exact zp6 (zeg.1 h).2.2.1 k
theorem zuo (h : fitB l v bal = true) : (wtsL l v bal).length = l.length := by rw [zkx h, zeq (yc8 h)]
theorem yqr (h : fitB l v bal = true) {i : Nat} (hi : i < l.length) : fn (wtsL l v bal) i = subT l (ownF l v bal) i := by
 rw [zkx h, zd1 (yc8 h) hi]
 exact zqz i fun k hk => z3k h hk
theorem ygp (i : Nat) : ownF l was bal i + zkc l is was bal i = ownF l is bal i + zkc l was is bal i := by
 unfold ownF zkc selF
 rw [← zgb, ← zgb]
 refine zbq _ fun k _ => ?_
 unfold newB forB
 by_cases e : lat was.l k = lat is.l k
 ·
  rw [e]
 ·
  have e' : lat is.l k ≠ lat was.l k := fun h => e h.symm
  rw [decide_eq_true e, decide_eq_true e', Bool.and_true, Bool.and_true]
  omega
theorem z86 (h : ofB l was is bal = true) : zea l (wtsL l was bal) (zhh l was is bal) (zd3 l was is bal) = true ∧ znd l (wtsL l was bal) (zhh l was is bal) (zd3 l was is bal) = wtsL l is bal := by
 obtain ⟨h1, h2⟩ := zqp.1 h
 obtain ⟨hm, _, hb, _⟩ := zeg.1 h1
 obtain ⟨_, _, k1, k2⟩ := yi7 hm (own := ownL l was bal) (p := zhh l was is bal) (m := zd3 l was is bal) (is := ownL l is bal) (z2q h1) (yii h) (yco h) (z2q h2) (fun k hk => by
  rw [z3k h1 hk, z3k h2 hk, yme h hk, yij h hk]
  have e := ygp (l := l) (was := was) (is := is) (bal := bal) k
  have b1 := zp6 (l := l) (v := was) hb k
  have b2 := zms (l := l) (v := is) (o := was) hb k
  omega)
 rw [zkx h1, zkx h2]
 exact ⟨k1, k2⟩
end
def zck (l : List Nd) (c d : Ck) : Bool := zdh l (za2 l d.root) (za2 l c.root)
section
variable {l : List Nd}
theorem zn3 {c d : Ck} (h : zck l c d = true) : ∃ i k : Nat, MayT l ∧ za2 l d.root = i ∧ za2 l c.root = k ∧ i < l.length ∧ k < l.length ∧ zbn l i k = true := by
 unfold zck zdh at h
 rw [Bool.and_eq_true, Bool.and_eq_true, zkn, zkn] at h
 exact ⟨(za2 l d.root).toNat, (za2 l c.root).toNat, h.1.1.1, by omega, by omega, by omega, by omega, h.2⟩
theorem ydc (hm : MayT l) {c d : Ck} {i k : Nat} (hd : za2 l d.root = i) (hc : za2 l c.root = k) (hi : i < l.length) (hk : k < l.length) (ha : zbn l i k = true) : zck l c d = true := by
 unfold zck
 rw [hd, hc, zmv hm hi hk]; exact ha
theorem zyd {a b c : Ck} (h : zck l a b = true) (k : zck l b c = true) : zck l a c = true := by
 obtain ⟨i, j, hm, e1, e2, hi, hj, h1⟩ := zn3 h
 obtain ⟨p, q, _, e3, e4, hp, hq, h2⟩ := zn3 k
 obtain rfl : q = i := by omega
 exact ydc hm e3 e2 hp hj (z2f hm h2 j hj h1)
end
section
variable {l : List Nd} {ls : List Lk} {cnt : Lk → Prop} {b : Ck}
end
section
variable (cnt : Lk → Bool)
def z4t (js : List Ck) (k : Lk) : Bool := cnt k && (decide (k.s ∈ js) && !decide (k.t ∈ js))
def zcm (ls : List Lk) (js : List Ck) : Option Lk := ls.find? (z4t cnt js)
def ze3 (ls : List Lk) : Nat → List Ck → List Ck
 | 0, js => js
 | f + 1, js => match zcm cnt ls js with
  | none => js
  | some k => ze3 ls f (js ++ [k.t])
def zru (ls : List Lk) (js : List Ck) : List Ck := ze3 cnt ls ls.length js
def zos (ls : List Lk) (js : List Ck) : Nat := (ls.filter fun k => !decide (k.t ∈ js)).length
end
section
variable {cnt : Lk → Bool} {ls : List Lk}
theorem zlm {js : List Ck} {k : Lk} (h : zcm cnt ls js = some k) : k ∈ ls ∧ cnt k = true ∧ k.s ∈ js ∧ k.t ∉ js := by
 have h1 := List.find?_some h
 have h2 := List.mem_of_find?_eq_some h
 unfold z4t at h1
 rw [Bool.and_eq_true, Bool.and_eq_true, decide_eq_true_iff, Bool.not_eq_true', decide_eq_false_iff_not] at h1
 exact ⟨h2, h1.1, h1.2.1, h1.2.2⟩
theorem yjd {js : List Ck} (h : zcm cnt ls js = none) {k : Lk} (hk : k ∈ ls) (hc : cnt k = true) (hs : k.s ∈ js) : k.t ∈ js := by
 have := (List.find?_eq_none.1 h) k hk
 unfold z4t at this
 rw [hc, decide_eq_true hs, Bool.true_and, Bool.true_and, Bool.not_eq_true', decide_eq_false_iff_not] at this
 exact Classical.not_not.1 this
theorem zla {α : Type} (p q : α → Bool) (hpq : ∀ a, q a = true → p a = true) {x : α} : ∀ (l : List α), x ∈ l → p x = true → q x = false → (l.filter q).length < (l.filter p).length
 | [], hx, _, _ => by cases hx
 | a :: l, hx, h1, h2 => by
  have le : ∀ m : List α, (m.filter q).length ≤ (m.filter p).length := by
   intro m
   induction m with
   | nil => exact Nat.le_refl _
   | cons b m ih =>
    rw [List.filter_cons, List.filter_cons]
    by_cases hq : q b = true
    ·
     rw [if_pos hq, if_pos (hpq b hq), List.length_cons, List.length_cons]; omega
    ·
     rw [if_neg hq]
     split
     ·
      rw [List.length_cons]; omega
     ·
      exact ih
  rw [List.filter_cons, List.filter_cons]
  by_cases e : a = x
  ·
   subst e
   rw [if_pos h1, if_neg (by rw [h2]; exact Bool.false_ne_true), List.length_cons]
   have := le l
   omega
  ·
   have hx' : x ∈ l := (List.mem_cons.1 hx).resolve_left (fun e2 => e e2.symm)
   have ih := zla p q hpq l hx' h1 h2
   by_cases hq : q a = true
   ·
    rw [if_pos hq, if_pos (hpq a hq), List.length_cons, List.length_cons]; omega
   ·
    rw [if_neg hq]
    split
    ·
     rw [List.length_cons]; omega
    ·
     exact ih
theorem zf4 {js : List Ck} {k : Lk} (h : zcm cnt ls js = some k) : zos ls (js ++ [k.t]) < zos ls js := by
 obtain ⟨h1, _, _, h4⟩ := zlm h
 refine zla _ _ (fun a ha => ?_) ls h1 ?_ ?_
 ·
  rw [Bool.not_eq_true', decide_eq_false_iff_not] at *
  exact fun e => ha (List.mem_append_left _ e)
 ·
  rw [Bool.not_eq_true', decide_eq_false_iff_not]; exact h4
 ·
  rw [Bool.not_eq_false', decide_eq_true_iff]; simp
theorem zwb (js : List Ck) : zos ls js ≤ ls.length := List.length_filter_le _ _
theorem zke : ∀ (f : Nat) (js : List Ck), zos ls js ≤ f → zcm cnt ls (ze3 cnt ls f js) = none
 | 0, js, h => by
  cases e : zcm cnt ls js with
  | none => exact e
  | some k => have := zf4 e; omega
 | f + 1, js, h => by
  cases e : zcm cnt ls js with
  | none => simp only [ze3, e]
  | some k =>
   have := zf4 e
   simp only [ze3, e]
   exact zke f _ (by omega)
theorem zec {js : List Ck} (h : zcm cnt ls js = none) (f : Nat) : ze3 cnt ls f js = js := by
 cases f with
 | zero => rfl
 | succ f => simp only [ze3, h]
theorem z9p (js : List Ck) : zru cnt ls (zru cnt ls js) = zru cnt ls js := zec (zke _ _ (zwb js)) _
theorem zx3 : ∀ (f g : Nat) (js : List Ck), zos ls js ≤ f → zos ls js ≤ g → ze3 cnt ls f js = ze3 cnt ls g js
 | 0, g, js, h, _ => by
  cases e : zcm cnt ls js with
  | none => rw [zec e, zec e]
  | some k => have := zf4 e; omega
 | f + 1, 0, js, _, h => by
  cases e : zcm cnt ls js with
  | none => rw [zec e, zec e]
  | some k => have := zf4 e; omega
 | f + 1, g + 1, js, h1, h2 => by
  cases e : zcm cnt ls js with
  | none => rw [zec e, zec e]
  | some k =>
   have := zf4 e
   simp only [ze3, e]
   exact zx3 f g _ (by omega) (by omega)
theorem z9y {js : List Ck} {k : Lk} (h : zcm cnt ls js = some k) : zru cnt ls js = zru cnt ls (js ++ [k.t]) := by
 have := zf4 h
 have h1 := zwb (ls := ls) js
 obtain ⟨f, hf⟩ : ∃ f, ls.length = f + 1 := ⟨ls.length - 1, by omega⟩
 unfold zru
 rw [hf]
 rw [show ze3 cnt ls (f + 1) js = ze3 cnt ls f (js ++ [k.t]) by simp only [ze3, h]]
 exact zx3 _ _ _ (by omega) (by omega)
theorem zsx : ∀ (f : Nat) (js : List Ck), ∃ ext, ze3 cnt ls f js = js ++ ext ∧ ∀ i, i < ext.length → ∃ k, k ∈ ls ∧ cnt k = true ∧ k.s ∈ js ++ ext.take i ∧ some k.t = ext[i]? ∧ k.t ∉ js ++ ext.take i
 | 0, js => ⟨[], by simp [ze3], fun i hi => by simp at hi⟩
 | f + 1, js => by
  cases e : zcm cnt ls js with
  | none => exact ⟨[], by simp [ze3, e], fun i hi => by simp at hi⟩
  | some k =>
   obtain ⟨h1, h2, h3, h4⟩ := zlm e
   obtain ⟨ext, he, hall⟩ := zsx f (js ++ [k.t])
   refine ⟨k.t :: ext, by simp only [ze3, e]; rw [he]; simp, fun i hi => ?_⟩
   cases i with
   | zero => exact ⟨k, h1, h2, by simpa using h3, rfl, by simpa using h4⟩
   | succ i =>
    obtain ⟨m, a, b, c, d, g⟩ := hall i (by simpa using hi)
    exact ⟨m, a, b, by simpa using c, by simpa using d, by simpa using g⟩
def z38 (cnt : Lk → Bool) (ls : List Lk) (js : List Ck) (c : Ck) : Bool := ls.any fun k => cnt k && (decide (k.t ∈ js) && (decide (k.s = c) && decide (k.t.epoch.toNat = c.epoch.toNat + 1)))
def zm5 (cnt : Lk → Bool) (ls : List Lk) (js : List Ck) : List Ck := js.filter (z38 cnt ls js)
def betC (lt : Rt → Rt → Bool) (a b : Ck) : Bool := decide (a.epoch.toNat < b.epoch.toNat) || (decide (b.epoch = a.epoch) && lt a.root b.root)
def zh9 (lt : Rt → Rt → Bool) (ok : Ck → Bool) : List Ck → Ck → Ck
 | [], o => o
 | c :: cs, o => zh9 lt ok cs (if (ok c && betC lt o c) = true then c else o)
theorem zg6 (lt : Rt → Rt → Bool) (ok : Ck → Bool) : ∀ (cs : List Ck) (o : Ck), (zh9 lt ok cs o = o ∨ (zh9 lt ok cs o ∈ cs ∧ ok (zh9 lt ok cs o) = true)) ∧ o.epoch.toNat ≤ (zh9 lt ok cs o).epoch.toNat ∧ ∀ c, c ∈ cs → ok c = true → c.epoch.toNat ≤ (zh9 lt ok cs o).epoch.toNat
 | [], o => ⟨.inl rfl, Nat.le_refl _, fun c hc => (by cases hc)⟩
 | c :: cs, o => by
  rw [show zh9 lt ok (c :: cs) o = zh9 lt ok cs (if (ok c && betC lt o c) = true then c else o) from rfl]
  by_cases h : (ok c && betC lt o c) = true
  ·
   rw [if_pos h]
   rw [Bool.and_eq_true] at h
   have hle : o.epoch.toNat ≤ c.epoch.toNat := by
    have := h.2
    unfold betC at this
    rw [Bool.or_eq_true, Bool.and_eq_true, decide_eq_true_iff, decide_eq_true_iff] at this
    rcases this with e | e
    ·
     omega
    ·
     rw [e.1]; exact Nat.le_refl _
   obtain ⟨h1, h2, h3⟩ := zg6 lt ok cs c
   refine ⟨.inr ?_, by omega, fun d hd hok => ?_⟩
   ·
    rcases h1 with e | e
    ·
     rw [e]; exact ⟨List.mem_cons_self, h.1⟩
    ·
     exact ⟨List.mem_cons_of_mem _ e.1, e.2⟩
   ·
    rcases List.mem_cons.1 hd with rfl | hd
    ·
     exact h2
    ·
     exact h3 d hd hok
  ·
   rw [if_neg h]
   obtain ⟨h1, h2, h3⟩ := zg6 lt ok cs o
   refine ⟨h1.imp id fun e => ⟨List.mem_cons_of_mem _ e.1, e.2⟩, h2, fun d hd hok => ?_⟩
   rcases List.mem_cons.1 hd with rfl | hd
   ·
    have : betC lt o d = false := by
     rw [← Bool.not_eq_true]; intro e; exact h (by rw [hok, e]; rfl)
    unfold betC at this
    rw [Bool.or_eq_false_iff, decide_eq_false_iff_not] at this
    omega
   ·
    exact h3 d hd hok
end
theorem zb9 {ls : List Lk} {i : Nat} (h : i < ls.length) : lkAt ls i = ls[i] := by simp [lkAt, h]
theorem z4i {ls : List Lk} {i : Nat} (h : i < ls.length) : lkAt ls i ∈ ls := by rw [zb9 h]; exact List.getElem_mem h
theorem z4s {a b : List Lk} (hl : a.length = b.length) (h : ∀ i, i < b.length → lkAt a i = lkAt b i) : a = b := by
 refine List.ext_getElem hl fun i h1 h2 => ?_
 have := h i h2
 rwa [zb9 h1, zb9 h2] at this
theorem yhq {a b : List Lk} {i : Nat} (h : i < a.length) : lkAt (a ++ b) i = lkAt a i := by
 rw [zb9 h, zb9 (by rw [List.length_append]; omega), List.getElem_append_left h]
theorem yey {a : List Lk} {x : Lk} : lkAt (a ++ [x]) a.length = x := by
 rw [zb9 (by rw [List.length_append]; simp)]; simp
theorem zu6 {a : List Lk} {i k : Nat} {x : Lk} (h : i < a.length) : lkAt (a.set i x) k = if k = i then x else lkAt a k := by
 unfold lkAt
 rw [List.getD_eq_getElem?_getD, List.getD_eq_getElem?_getD, List.getElem?_set]
 by_cases e : k = i
 ·
  subst e; rw [if_pos rfl, if_pos rfl, if_pos h]; rfl
 ·
  rw [if_neg (fun h => e h.symm), if_neg e]
def okK (x : Lk) : Prop := x.s.epoch.toNat < x.t.epoch.toNat ∧ 1 ≤ x.mask.toNat ∧ x.mask.toNat ≤ 255
instance (x : Lk) : Decidable (okK x) := by unfold okK; exact inferInstance
def MayK (l : List Lk) (n : Nat) : Prop := ∀ i, i < n → okK (lkAt l i) ∧ ∀ k, k < i → oneB (lkAt l i) (lkAt l k) = false
instance (l : List Lk) (n : Nat) : Decidable (MayK l n) := by unfold MayK; exact inferInstance
def mayL (l : List Lk) : Bool := decide (MayK l l.length ∧ l.length ≤ 16)
theorem zd2 {l : List Lk} : mayL l = true ↔ MayK l l.length ∧ l.length ≤ 16 := by unfold mayL; rw [decide_eq_true_iff]
theorem zlx {a b : Lk} : oneB a b = true ↔ a.s = b.s ∧ a.t = b.t := by unfold oneB; rw [decide_eq_true_iff]
theorem yd0 (a b : Lk) : oneB a b = oneB b a := by
 rw [Bool.eq_iff_iff, zlx, zlx]
 exact ⟨fun h => ⟨h.1.symm, h.2.symm⟩, fun h => ⟨h.1.symm, h.2.symm⟩⟩
theorem ynz {l : List Lk} {n i k : Nat} (h : MayK l n) (hi : i < n) (hk : k < n) (e : oneB (lkAt l i) (lkAt l k) = true) : i = k := by
 rcases Nat.lt_trichotomy i k with h1 | h1 | h1
 ·
  have := (h k hk).2 i h1
  rw [yd0, e] at this; cases this
 ·
  exact h1
 ·
  have := (h i hi).2 k h1
  rw [e] at this; cases this
def isK (s t : Ck) (x : Lk) : Bool := decide (x.s = s ∧ x.t = t)
def atK (l : List Lk) (s t : Ck) : Nat := l.findIdx (isK s t)
def bitK (v : Int) : UInt64 := UInt64.ofNat (bitN v)
theorem z3p (v : Int) : (bitK v).toNat = bitN v := by
 unfold bitK
 rw [UInt64.toNat_ofNat', Nat.mod_eq_of_lt (yoa v)]
def errK (l : List Lk) (s t : Ck) (v : Int) : Nat :=
 if mayL l = true then (if 0 ≤ v ∧ v < 8 then (if s.epoch.toNat < t.epoch.toNat then (if atK l s t < l.length then 0 else if l.length = 16 then 3 else 0) else 9) else 10) else 1
def putK (l : List Lk) (s t : Ck) (v : Int) : List Lk :=
 if errK l s t v = 0 then (if atK l s t < l.length then l.set (atK l s t) { lkAt l (atK l s t) with mask := (lkAt l (atK l s t)).mask ||| bitK v } else l ++ [⟨s, t, bitK v⟩]) else l
def whoK (l : List Lk) (s t : Ck) : UInt64 := if atK l s t < l.length then (lkAt l (atK l s t)).mask else 0
section
variable {l : List Lk} {s t : Ck} {v : Int}
theorem zm3 {x : Lk} : isK s t x = true ↔ x.s = s ∧ x.t = t := by unfold isK; rw [decide_eq_true_iff]
theorem ytf : atK l s t ≤ l.length := List.findIdx_le_length
theorem zrr (h : atK l s t < l.length) : isK s t (lkAt l (atK l s t)) = true := by
 rw [zb9 h]; exact List.findIdx_getElem
theorem zma {k : Nat} (h : k < atK l s t) : isK s t (lkAt l k) = false := by
 have h2 : k < l.length := Nat.lt_of_lt_of_le h ytf
 rw [zb9 h2]
 have := List.not_of_lt_findIdx h
 simpa using this
theorem z39 {i : Nat} (hi : i < l.length) (h : isK s t (lkAt l i) = true) (ha : ∀ k, k < i → isK s t (lkAt l k) = false) : atK l s t = i := by
 rcases Nat.lt_trichotomy (atK l s t) i with h1 | h1 | h1
 ·
  have := ha _ h1
  rw [zrr (by omega)] at this; cases this
 ·
  exact h1
 ·
  have := zma h1
  rw [h] at this; cases this
theorem yb0 (h : mayL l = false) : errK l s t v = 1 := by unfold errK; rw [if_neg (by rw [h]; exact Bool.false_ne_true)]
theorem z1p (h : mayL l = true) (hv : ¬ (0 ≤ v ∧ v < 8)) : errK l s t v = 10 := by unfold errK; rw [if_pos h, if_neg hv]
theorem z4h (h : mayL l = true) (hv : 0 ≤ v ∧ v < 8) (he : ¬ s.epoch.toNat < t.epoch.toNat) : errK l s t v = 9 := by unfold errK; rw [if_pos h, if_pos hv, if_neg he]
theorem zpr (h : mayL l = true) (hv : 0 ≤ v ∧ v < 8) (he : s.epoch.toNat < t.epoch.toNat) (ha : atK l s t < l.length) : errK l s t v = 0 := by unfold errK; rw [if_pos h, if_pos hv, if_pos he, if_pos ha]
theorem z3a (h : mayL l = true) (hv : 0 ≤ v ∧ v < 8) (he : s.epoch.toNat < t.epoch.toNat) (ha : ¬ atK l s t < l.length) (hl : l.length = 16) : errK l s t v = 3 := by unfold errK; rw [if_pos h, if_pos hv, if_pos he, if_neg ha, if_pos hl]
theorem ym0 (h : mayL l = true) (hv : 0 ≤ v ∧ v < 8) (he : s.epoch.toNat < t.epoch.toNat) (ha : ¬ atK l s t < l.length) (hl : ¬ l.length = 16) : errK l s t v = 0 := by unfold errK; rw [if_pos h, if_pos hv, if_pos he, if_neg ha, if_neg hl]
theorem yfx (h : errK l s t v = 0) : mayL l = true ∧ (0 ≤ v ∧ v < 8) ∧ s.epoch.toNat < t.epoch.toNat ∧ (atK l s t < l.length ∨ l.length < 16) := by
 have hm : mayL l = true := by
  cases e : mayL l
  ·
   rw [yb0 e] at h; omega
  ·
   rfl
 have hl := (zd2.1 hm).2
 by_cases hv : 0 ≤ v ∧ v < 8
 ·
  by_cases he : s.epoch.toNat < t.epoch.toNat
  ·
   refine ⟨hm, hv, he, ?_⟩
   by_cases ha : atK l s t < l.length
   ·
    exact .inl ha
   ·
    refine .inr ?_
    by_cases hq : l.length = 16
    ·
     rw [z3a hm hv he ha hq] at h; omega
    ·
     omega
  ·
   rw [z4h hm hv he] at h; omega
 ·
  rw [z1p hm hv] at h; omega
theorem zmz (h : errK l s t v ≠ 0) : putK l s t v = l := by unfold putK; rw [if_neg h]
theorem ziv (h : errK l s t v = 0) (ha : atK l s t < l.length) : putK l s t v = l.set (atK l s t) { lkAt l (atK l s t) with mask := (lkAt l (atK l s t)).mask ||| bitK v } := by unfold putK; rw [if_pos h, if_pos ha]
theorem zz0 (h : errK l s t v = 0) (ha : ¬ atK l s t < l.length) : putK l s t v = l ++ [⟨s, t, bitK v⟩] := by unfold putK; rw [if_pos h, if_neg ha]
theorem yi1 : (putK l s t v).length ≤ l.length + 1 := by
 unfold putK
 split
 ·
  split
  ·
   rw [List.length_set]; omega
  ·
   rw [List.length_append]; simp
 ·
  omega
theorem zqa (hv : 0 ≤ v ∧ v < 8) : 1 ≤ (bitK v).toNat ∧ (bitK v).toNat < 2 ^ 8 := by
 obtain ⟨n, rfl⟩ : ∃ n : Nat, v = n := ⟨v.toNat, by omega⟩
 rw [z3p, zo5 (by omega)]
 exact ⟨Nat.two_pow_pos n, Nat.pow_lt_pow_right (by decide) (by omega)⟩
theorem yn1 {a b : UInt64} (ha : a.toNat ≤ 255) (hb : 1 ≤ b.toNat ∧ b.toNat < 2 ^ 8) : 1 ≤ (a ||| b).toNat ∧ (a ||| b).toNat ≤ 255 := by
 rw [UInt64.toNat_or]
 have h1 := Nat.or_lt_two_pow (show a.toNat < 2 ^ 8 by omega) hb.2
 have h2 : b.toNat ≤ a.toNat ||| b.toNat := Nat.right_le_or
 omega
theorem ym9 (h : errK l s t v = 0) :
  (∀ i, i < l.length → i < (putK l s t v).length ∧ (lkAt (putK l s t v) i).s = (lkAt l i).s ∧ (lkAt (putK l s t v) i).t = (lkAt l i).t ∧ (isK s t (lkAt l i) = false → (lkAt (putK l s t v) i).mask = (lkAt l i).mask) ∧ (isK s t (lkAt l i) = true → (lkAt (putK l s t v) i).mask = (lkAt l i).mask ||| bitK v)) ∧
  mayL (putK l s t v) = true ∧ errK (putK l s t v) s t v = 0 ∧ putK (putK l s t v) s t v = putK l s t v ∧ whoK (putK l s t v) s t = whoK l s t ||| bitK v := by
 obtain ⟨hm, hv, he, hr⟩ := yfx h
 obtain ⟨hk, h16⟩ := zd2.1 hm
 by_cases ha : atK l s t < l.length
 ·
  have hp := ziv h ha
  have his := zm3.1 (zrr ha)
  obtain ⟨a, hae⟩ : ∃ a, a = atK l s t := ⟨_, rfl⟩
  rw [← hae] at ha hp his
  obtain ⟨y, hy⟩ : ∃ y : Lk, y = { lkAt l a with mask := (lkAt l a).mask ||| bitK v } := ⟨_, rfl⟩
  rw [← hy] at hp
  have ys : y.s = (lkAt l a).s := by rw [hy]
  have yt : y.t = (lkAt l a).t := by rw [hy]
  have ym : y.mask = (lkAt l a).mask ||| bitK v := by rw [hy]
  have hat : ∀ i, lkAt (putK l s t v) i = if i = a then y else lkAt l i := fun i => by rw [hp]; exact zu6 ha
  have hst : ∀ i, (lkAt (putK l s t v) i).s = (lkAt l i).s ∧ (lkAt (putK l s t v) i).t = (lkAt l i).t := fun i => by
   rw [hat]
   by_cases e : i = a
   ·
    rw [if_pos e, e]; exact ⟨ys, yt⟩
   ·
    rw [if_neg e]; exact ⟨rfl, rfl⟩
  have hlen : (putK l s t v).length = l.length := by rw [hp, List.length_set]
  have hone : ∀ i k, oneB (lkAt (putK l s t v) i) (lkAt (putK l s t v) k) = oneB (lkAt l i) (lkAt l k) := fun i k => by
   unfold oneB
   rw [(hst i).1, (hst i).2, (hst k).1, (hst k).2]
  have hisK : ∀ i, isK s t (lkAt (putK l s t v) i) = isK s t (lkAt l i) := fun i => by unfold isK; rw [(hst i).1, (hst i).2]
  have hmay : mayL (putK l s t v) = true := by
   refine zd2.2 ⟨fun i hi => ?_, by omega⟩
   rw [hlen] at hi
   obtain ⟨⟨o1, o2, o3⟩, o4⟩ := hk i hi
   refine ⟨⟨by rw [(hst i).1, (hst i).2]; exact o1, ?_⟩, fun k hki => by rw [hone]; exact o4 k hki⟩
   rw [hat]
   by_cases e : i = a
   ·
    rw [if_pos e, ym]
    exact yn1 (hk a ha).1.2.2 (zqa hv)
   ·
    rw [if_neg e]; exact ⟨o2, o3⟩
  have hata : atK (putK l s t v) s t = a := z39 (by omega) (by rw [hisK, hae]; exact zrr (by omega)) (fun k hk' => by rw [hisK]; exact zma (by omega))
  have herr : errK (putK l s t v) s t v = 0 := zpr hmay hv he (by omega)
  refine ⟨fun i hi => ⟨by omega, (hst i).1, (hst i).2, fun e => ?_, fun e => ?_⟩, hmay, herr, ?_, ?_⟩
  ·
   rw [hat, if_neg (fun h => by rw [h, hae, zrr (by omega)] at e; cases e)]
  ·
   have : i = a := ynz hk hi ha (zlx.2 ⟨(zm3.1 e).1.trans his.1.symm, (zm3.1 e).2.trans his.2.symm⟩)
   rw [hat, if_pos this, ym, this]
  ·
   have hp2 := ziv herr (by omega)
   rw [hata] at hp2
   rw [hp2, hat, if_pos rfl]
   have e2 : ({ y with mask := y.mask ||| bitK v } : Lk) = y := by
    refine Lk.ext rfl rfl ?_
    show y.mask ||| bitK v = y.mask
    rw [ym]
    refine zwi fun i => ?_
    simp only [z31, Bool.or_assoc, Bool.or_self]
   rw [e2]
   refine z4s (by rw [List.length_set]) fun i hi => ?_
   rw [zu6 (by omega), hat]
   split <;> rfl
  ·
   unfold whoK
   rw [hata, if_pos (by omega), ← hae, if_pos ha, hat, if_pos rfl, ym]
 ·
  have hp := zz0 h ha
  have hr' : l.length < 16 := hr.resolve_left ha
  have hnone : ∀ k, k < l.length → isK s t (lkAt l k) = false := fun k hk => zma (by omega)
  have hlen : (putK l s t v).length = l.length + 1 := by rw [hp, List.length_append]; rfl
  have hat : ∀ i, i < l.length → lkAt (putK l s t v) i = lkAt l i := fun i hi => by rw [hp]; exact yhq hi
  have hlast : lkAt (putK l s t v) l.length = ⟨s, t, bitK v⟩ := by rw [hp]; exact yey
  have hmay : mayL (putK l s t v) = true := by
   refine zd2.2 ⟨fun i hi => ?_, by omega⟩
   by_cases e : i < l.length
   ·
    rw [hat i e]
    exact ⟨(hk i e).1, fun k hki => by rw [hat k (by omega)]; exact (hk i e).2 k hki⟩
   ·
    obtain rfl : i = l.length := by omega
    rw [hlast]
    refine ⟨⟨he, (zqa hv).1, by have := (zqa hv).2; show (bitK v).toNat ≤ 255; omega⟩, fun k hki => ?_⟩
    rw [hat k hki, ← Bool.not_eq_true, zlx]
    intro h2
    have := hnone k hki
    rw [zm3.2 ⟨h2.1.symm, h2.2.symm⟩] at this; cases this
  have hata : atK (putK l s t v) s t = l.length := z39 (by omega) (by rw [hlast]; exact zm3.2 ⟨rfl, rfl⟩) (fun k hk' => by rw [hat k hk']; exact hnone k hk')
  have herr : errK (putK l s t v) s t v = 0 := zpr hmay hv he (by omega)
  refine ⟨fun i hi => ⟨by omega, by rw [hat i hi], by rw [hat i hi], fun _ => by rw [hat i hi], fun e => ?_⟩, hmay, herr, ?_, ?_⟩
  ·
   rw [hnone i hi] at e; cases e
  ·
   have hp2 := ziv herr (by omega)
   rw [hata] at hp2
   rw [hp2, hlast]
   have e2 : ({ (⟨s, t, bitK v⟩ : Lk) with mask := bitK v ||| bitK v } : Lk) = ⟨s, t, bitK v⟩ := by
    refine Lk.ext rfl rfl (zwi fun i => ?_)
    show (bitK v ||| bitK v).toNat.testBit i = (bitK v).toNat.testBit i
    rw [z31, Bool.or_self]
   show (putK l s t v).set l.length ({ (⟨s, t, bitK v⟩ : Lk) with mask := bitK v ||| bitK v } : Lk) = _
   rw [e2]
   refine z4s (by rw [List.length_set]) fun i hi => ?_
   rw [zu6 (by omega)]
   split
   ·
    rename_i e; rw [e, hlast]
   ·
    rfl
  ·
   unfold whoK
   rw [hata, if_pos (by omega), if_neg ha, hlast]
   refine zwi fun i => ?_
   rw [z31]
   simp
end
def ckAt (l : List Ck) (i : Nat) : Ck := l.getD i zcc
theorem yjq {w : World} {a b : Obj} : Below w.heap.size w ((w.alloc a).alloc b) := ((Below.refl _ _).alloc (Nat.le_refl _) _).alloc (by simp) _
def zf5 (l : List Nd) (ls : List Lk) (bal : List UInt64) : Bool := decide (MayT l) && (mayL ls && mayB bal)
def cntB (l : List Nd) (bal : List UInt64) (k : Lk) : Bool := zck l k.t k.s && ygl bal k.mask
def zcn (l : List Nd) (ls : List Lk) (bal : List UInt64) (js : List Ck) : List Ck := if zf5 l ls bal = true then zru (cntB l bal) ls js else js
def zb6 (l : List Nd) (ls : List Lk) (bal : List UInt64) (js : List Ck) : List Ck := if zf5 l ls bal = true then zm5 (cntB l bal) ls js else []
def okN (l : List Nd) (fin c : Ck) : Bool := zck l c fin && decide (fin.epoch.toNat < c.epoch.toNat)
def ze5 (l : List Nd) (ls : List Lk) (bal : List UInt64) (js : List Ck) (fin : Ck) : Ck := zh9 zjr (okN l fin) (zb6 l ls bal js) fin
def yee (l : List Nd) (js : List Ck) (fin : Ck) : Ck := zh9 zjr (fun c => zck l c fin) js fin
section
variable {l : List Nd} {ls : List Lk} {bal : List UInt64} {js : List Ck} {fin : Ck}
theorem zqx : zf5 l ls bal = true ↔ MayT l ∧ mayL ls = true ∧ mayB bal = true := by unfold zf5; rw [Bool.and_eq_true, Bool.and_eq_true, decide_eq_true_iff]
theorem yi9 (h : zf5 l ls bal = false) : zcn l ls bal js = js := by unfold zcn; rw [if_neg (by rw [h]; exact Bool.false_ne_true)]
theorem zkw (h : zf5 l ls bal = true) : zcn l ls bal js = zru (cntB l bal) ls js := by unfold zcn; rw [if_pos h]
theorem z5t (h : zf5 l ls bal = false) : zb6 l ls bal js = [] := by unfold zb6; rw [if_neg (by rw [h]; exact Bool.false_ne_true)]
theorem zqf (h : zf5 l ls bal = true) : zb6 l ls bal js = zm5 (cntB l bal) ls js := by unfold zb6; rw [if_pos h]
theorem zwa : ze5 l ls bal js fin = fin ∨ (ze5 l ls bal js fin ∈ zb6 l ls bal js ∧ zck l (ze5 l ls bal js fin) fin = true ∧ fin.epoch.toNat < (ze5 l ls bal js fin).epoch.toNat) := by
 obtain ⟨h, _, _⟩ := zg6 zjr (okN l fin) (zb6 l ls bal js) fin
 rcases h with h | ⟨h1, h2⟩
 ·
  exact .inl h
 ·
  unfold okN at h2
  rw [Bool.and_eq_true, decide_eq_true_iff] at h2
  exact .inr ⟨h1, h2.1, h2.2⟩
theorem zxq : zcn l [] bal js = js ∧ zb6 l [] bal js = [] ∧ ze5 l [] bal js fin = fin := by
 have h1 : zcn l [] bal js = js := by unfold zcn; split <;> rfl
 have h2 : zb6 l [] bal js = [] := by
  unfold zb6
  split
  ·
   unfold zm5
   rw [List.filter_eq_nil_iff]
   intro c _
   unfold z38
   simp
  ·
   rfl
 refine ⟨h1, h2, ?_⟩
 unfold ze5
 rw [h2]; rfl
end
def att (l : List Aa) (i : Nat) : Aa := l.getD i zaa
def slA (l : List Aa) (i : Nat) : Nat := (att l i).slot.toNat
def MayA (l : List Aa) : Prop := l.length ≤ 6 ∧ ∀ i, i < l.length → slA l i ≤ 1099511627776
instance (l : List Aa) : Decidable (MayA l) := by unfold MayA; exact inferInstance
def mayA (l : List Aa) : Bool := decide (MayA l)
def ztq (l : List Aa) (a : Aa) : Bool := mayA l && decide (a.slot.toNat ≤ 1099511627776)
def putE (l : List Aa) (a : Aa) : Nat := if ztq l a = true then (if l.length = 6 then 3 else 0) else 1
def putA (l : List Aa) (a : Aa) : List Aa := if ztq l a = true then (if l.length = 6 then l else l ++ [a]) else l
def zr2 (now : Nat) (a : Aa) : Bool := decide (a.slot.toNat < now)
def dueL (l : List Aa) (now : Nat) : List Aa := l.filter (zr2 now)
def zhp (l : List Aa) (now : Nat) : List Aa := l.filter fun a => !zr2 now a
section
variable {l k : List Aa} {a : Aa} {now later : Nat}
theorem zlj {i : Nat} (h : i < l.length) : att l i = l[i] := by unfold att; simp [h]
theorem yf9 : mayA l = true ↔ l.length ≤ 6 ∧ ∀ i, i < l.length → slA l i ≤ 1099511627776 := by unfold mayA; rw [decide_eq_true_iff]; rfl
theorem zff : mayA l = true ↔ l.length ≤ 6 ∧ ∀ a, a ∈ l → a.slot.toNat ≤ 1099511627776 := by
 rw [yf9]
 refine and_congr Iff.rfl ⟨fun h a ha => ?_, fun h i hi => ?_⟩
 ·
  obtain ⟨i, hi, rfl⟩ := List.getElem_of_mem ha
  have := h i hi
  unfold slA at this
  rwa [zlj hi] at this
 ·
  unfold slA
  rw [zlj hi]
  exact h _ (List.getElem_mem hi)
theorem yab : dueL (l ++ k) now = dueL l now ++ dueL k now := List.filter_append ..
theorem z3t : zhp (l ++ k) now = zhp l now ++ zhp k now := List.filter_append ..
theorem ya5 : (dueL l now).length + (zhp l now).length = l.length := by
 unfold dueL zhp
 induction l with
 | nil => rfl
 | cons a l ih =>
  simp only [List.filter_cons]
  cases zr2 now a <;> simp <;> omega
theorem yef : (dueL l now).length ≤ l.length := by have := ya5 (l := l) (now := now); omega
theorem yap : (zhp l now).length ≤ l.length := by have := ya5 (l := l) (now := now); omega
theorem z40 {x : Aa} (h : x ∈ zhp l now) : x ∈ l ∧ ¬ x.slot.toNat < now := by
 unfold zhp at h
 rw [List.mem_filter] at h
 unfold zr2 at h
 simpa using h
theorem z9h (h : ¬ a.slot.toNat < now) : zhp (l ++ [a]) now = zhp l now ++ [a] := by
 rw [z3t]
 congr 1
 unfold zhp zr2
 simp [h]
theorem yge (h : a.slot.toNat < now) : dueL (l ++ [a]) now = dueL l now ++ [a] := by
 rw [yab]
 congr 1
 unfold dueL zr2
 simp [h]
theorem ygj (h : mayA l = true) (hs : k.length ≤ l.length) (hm : ∀ x, x ∈ k → x ∈ l) : mayA k = true := zff.2 ⟨by have := (zff.1 h).1; omega, fun x hx => (zff.1 h).2 x (hm x hx)⟩
end
structure Bk where
 root : Rt
 parent : Rt
 slot : UInt64
 just : UInt64
structure Eg where
 t : List Nd
 bal : List UInt64
 v : Vt
 w : List UInt64
 late : List Aa
 k : List Lk
 j : List Ck
 fin : Ck
 now : UInt64
theorem Eg.ext {x y : Eg} (h0 : x.t = y.t) (h1 : x.bal = y.bal) (h2 : x.v = y.v) (h3 : x.w = y.w) (h4 : x.late = y.late) (h5 : x.k = y.k) (h6 : x.j = y.j) (h7 : x.fin = y.fin) (h8 : x.now = y.now) : x = y := by cases x; cases y; simp_all
instance : DecidableEq Eg := fun x y => decidable_of_iff (x.t = y.t ∧ x.bal = y.bal ∧ x.v = y.v ∧ x.w = y.w ∧ x.late = y.late ∧ x.k = y.k ∧ x.j = y.j ∧ x.fin = y.fin ∧ x.now = y.now) ⟨fun h => Eg.ext h.1 h.2.1 h.2.2.1 h.2.2.2.1 h.2.2.2.2.1 h.2.2.2.2.2.1 h.2.2.2.2.2.2.1 h.2.2.2.2.2.2.2.1 h.2.2.2.2.2.2.2.2, fun h => by subst h; exact ⟨rfl, rfl, rfl, rfl, rfl, rfl, rfl, rfl, rfl⟩⟩
def inT (l : List Nd) (r : Rt) : Bool := decide (0 ≤ za2 l r)
def MayG (e : Eg) : Prop :=
 (MayT e.t ∧ mayB e.bal = true ∧ mayV e.v = true ∧ mayA e.late = true ∧ mayL e.k = true ∧ e.v.l.length = e.bal.length ∧ e.now.toNat ≤ 1099511627776) ∧
 e.w = wtsL e.t e.v e.bal ∧ (∀ a, a ∈ e.late → e.now.toNat ≤ a.slot.toNat) ∧ e.fin ∈ e.j ∧ e.j.Nodup ∧ (∀ c, c ∈ e.j → inT e.t c.root = true) ∧
 (∀ i, i < e.v.l.length → (lat e.v.l i).has = true → inT e.t (lat e.v.l i).root = true) ∧ (∀ x, x ∈ e.k → inT e.t x.s.root = true ∧ inT e.t x.t.root = true) ∧
 zcn e.t e.k e.bal e.j = e.j ∧ ze5 e.t e.k e.bal e.j e.fin = e.fin
instance (e : Eg) : Decidable (MayG e) := by unfold MayG; exact inferInstance
def mayG (e : Eg) : Bool := decide (MayG e)
def newG (r : Rt) (bal : List UInt64) : Eg := ⟨[⟨r, -1, 0, 0⟩], bal, newV bal.length, [0], [], [], [⟨0, r⟩], ⟨0, r⟩, 0⟩
def zf8 (e : Eg) (b : Bk) : Nat :=
 if mayG e = true then (if e.now.toNat < b.slot.toNat then 7 else if insE e.t b.root b.parent b.slot = 0 then (if zdh (insL e.t b.root b.parent b.slot b.just) (za2 e.t e.fin.root) e.t.length = true then 0 else 8) else insE e.t b.root b.parent b.slot) else 1
def blkG (e : Eg) (b : Bk) : Eg := if zf8 e b = 0 then { e with t := insL e.t b.root b.parent b.slot b.just, w := e.w ++ [0] } else e
def fitG (e : Eg) (a : Aa) : Nat :=
 if 0 ≤ a.val ∧ a.val < e.bal.length then (if inT e.t a.head = true ∧ inT e.t a.source.root = true ∧ inT e.t a.target.root = true then (if a.source.epoch.toNat < a.target.epoch.toNat ∧ zdh e.t (za2 e.t a.source.root) (za2 e.t a.target.root) = true ∧ zdh e.t (za2 e.t a.target.root) (za2 e.t a.head) = true then 0 else 9) else 5) else 10
def znm (e : Eg) (a : Aa) : Nat := errK e.k a.source a.target a.val
def ctK (e : Eg) (a : Aa) : List Lk := putK e.k a.source a.target a.val
def ctV (e : Eg) (a : Aa) : Vt := putV e.v a.val a.head a.target.epoch
def ctJ (e : Eg) (a : Aa) : List Ck := zcn e.t (ctK e a) e.bal e.j
def ctG (e : Eg) (a : Aa) : Eg := if znm e a = 0 then { e with k := ctK e a, v := ctV e a, w := wtsL e.t (ctV e a) e.bal, j := ctJ e a, fin := ze5 e.t (ctK e a) e.bal (ctJ e a) e.fin } else e
def zik (e : Eg) (a : Aa) : Nat := if mayG e = true then (if fitG e a = 0 then (if a.slot.toNat < e.now.toNat then znm e a else putE e.late a) else fitG e a) else 1
def attG (e : Eg) (a : Aa) : Eg := if mayG e = true ∧ fitG e a = 0 then (if a.slot.toNat < e.now.toNat then ctG e a else { e with late := putA e.late a }) else e
def oneG (e : Eg) (a : Aa) : Eg := if fitG e a = 0 then ctG e a else e
def zfy (e : Eg) : Nat := if mayG e = true then (if e.now.toNat = 1099511627776 then 3 else 0) else 1
def upG (e : Eg) : Eg := { e with now := e.now + 1, late := zhp e.late (e.now.toNat + 1) }
def zog (e : Eg) : Eg := if zfy e = 0 then (dueL e.late (e.now.toNat + 1)).foldl oneG (upG e) else e
def zlo (e : Eg) : Nat := if mayG e = true then 0 else 1
def prT (e : Eg) : List Nd := cutZ e.t (za2 e.t e.fin.root)
def prV (e : Eg) : Vt := zmt e.v ((prT e).map Nd.root)
def zuz (t : List Nd) (fin : Ck) (x : Lk) : Bool := (inT t x.s.root && inT t x.t.root) && decide (fin.epoch.toNat < x.t.epoch.toNat)
def z5n (t : List Nd) (fin c : Ck) : Bool := inT t c.root && decide (fin.epoch.toNat ≤ c.epoch.toNat)
def prG (e : Eg) : Eg := if zlo e = 0 then { e with t := prT e, v := prV e, w := wtsL (prT e) (prV e) e.bal, k := e.k.filter (zuz (prT e) e.fin), j := e.j.filter (z5n (prT e) e.fin) } else e
inductive Cmd
 | block (b : Bk)
 | att (a : Aa)
 | tick
 | prune
 | form
 | other
def zhx (e : Eg) : Cmd → Nat
 | .block b => zf8 e b
 | .att a => zik e a
 | .tick => zfy e
 | .prune => zlo e
 | .form => if mayG e = true then 2 else 1
 | .other => 1
def doG (e : Eg) : Cmd → Eg
 | .block b => blkG e b
 | .att a => attG e a
 | .tick => zog e
 | .prune => prG e
 | _ => e
section
variable {e : Eg}
theorem mayG_iff : mayG e = true ↔ MayG e := by unfold mayG; rw [decide_eq_true_iff]
theorem zio {l : List Nd} {r : Rt} : inT l r = true ↔ 0 ≤ za2 l r := by unfold inT; rw [decide_eq_true_iff]
theorem zuc {l : List Nd} {r : Rt} (h : MayT l) : inT l r = true ↔ ∃ i, i < l.length ∧ (nd l i).root = r := by
 rw [zio]
 rcases zd9 h r with ⟨i, hi, e1, e2⟩ | ⟨e1, e2⟩
 ·
  exact ⟨fun _ => ⟨i, hi, e2⟩, fun _ => by omega⟩
 ·
  exact ⟨fun h => by omega, fun ⟨i, hi, h⟩ => absurd h (e2 i hi)⟩
theorem yas {l : List Nd} {r : Rt} (h : MayT l) (hr : inT l r = true) : ∃ i : Nat, i < l.length ∧ za2 l r = i ∧ (nd l i).root = r := by
 rcases zd9 h r with h1 | ⟨e1, _⟩
 ·
  exact h1
 ·
  rw [zio, e1] at hr; omega
structure MayS' (e : Eg) : Prop where
 t : MayT e.t
 bal : mayB e.bal = true
 v : mayV e.v = true
 late : mayA e.late = true
 k : mayL e.k = true
 vl : e.v.l.length = e.bal.length
 now : e.now.toNat ≤ 1099511627776
 w : e.w = wtsL e.t e.v e.bal
 slots : ∀ a, a ∈ e.late → e.now.toNat ≤ a.slot.toNat
 fin : e.fin ∈ e.j
 nod : e.j.Nodup
 inJ : ∀ c, c ∈ e.j → inT e.t c.root = true
 inV : ∀ i, i < e.v.l.length → (lat e.v.l i).has = true → inT e.t (lat e.v.l i).root = true
 inK : ∀ x, x ∈ e.k → inT e.t x.s.root = true ∧ inT e.t x.t.root = true
 more : zcn e.t e.k e.bal e.j = e.j
 next : ze5 e.t e.k e.bal e.j e.fin = e.fin
theorem ycy : MayG e ↔ MayS' e :=
 ⟨fun ⟨⟨h1, h2, h3, h4, h5, h6, h7⟩, h8, h9, h10, h11, h12, h13, h14, h15, h16⟩ => ⟨h1, h2, h3, h4, h5, h6, h7, h8, h9, h10, h11, h12, h13, h14, h15, h16⟩,
  fun h => ⟨⟨h.t, h.bal, h.v, h.late, h.k, h.vl, h.now⟩, h.w, h.slots, h.fin, h.nod, h.inJ, h.inV, h.inK, h.more, h.next⟩⟩
theorem zgw : mayG e = true ↔ MayS' e := mayG_iff.trans ycy
theorem MayS'.told (h : MayS' e) : zf5 e.t e.k e.bal = true := zqx.2 ⟨h.t, h.k, h.bal⟩
theorem MayS'.fit (h : MayS' e) : fitB e.t e.v e.bal = true := zeg.2 ⟨h.t, h.v, h.bal, h.vl⟩
end
end Go.Proofs.YtmihlihlpdkdcaaGreat
