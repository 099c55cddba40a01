import Derived.Test.YtkalofboioffiaaGreatT05
namespace Go.Proofs.YtkalofboioffiaaGreat
open Go.RowKit
set_option maxRecDepth 200000
set_option maxHeartbeats 64000000
def forB (l : List Nd) (v : Vt) (i k : Nat) : Bool := (lat v.l k).has && decide ((lat v.l k).root = (nd l i).root)
def newB (l : List Nd) (v o : Vt) (i k : Nat) : Bool := forB l v i k && decide (lat v.l k ≠ lat o.l k)
def selF (p : Nat → Bool) (f : Nat → Nat) (n : Nat) : Nat := sumF (fun k => if p k = true then f k else 0) n
theorem zzq {p : Nat → Bool} {f : Nat → Nat} {n : Nat} (h : p n = true) : selF p f (n + 1) = selF p f n + f n := by
 show sumF _ n + (if p n = true then f n else 0) = _
 rw [if_pos h]; rfl
theorem zxk {p : Nat → Bool} {f : Nat → Nat} {n : Nat} (h : p n = false) : selF p f (n + 1) = selF p f n := by
 show sumF _ n + (if p n = true then f n else 0) = _
 rw [if_neg (by rw [h]; exact Bool.false_ne_true), Nat.add_zero]; rfl
theorem ygv (p : Nat → Bool) (f : Nat → Nat) (n : Nat) : selF p f n ≤ sumF f n := zxu _ fun k _ => by split <;> omega
theorem zqm {f : Nat → Nat} {B : Nat} : ∀ n, (∀ k, k < n → f k ≤ B) → sumF f n ≤ n * B
 | 0, _ => by simp [sumF]
 | n + 1, h => by
  simp only [sumF]
  have h1 := zqm n (fun k hk => h k (by omega))
  have h2 := h n (by omega)
  rw [Nat.add_mul, Nat.one_mul]
  omega
def ownF (l : List Nd) (v : Vt) (bal : List UInt64) (i : Nat) : Nat := selF (forB l v i) (fn bal) bal.length
def zsa (l : List Nd) (v o : Vt) (bal : List UInt64) (i : Nat) : Nat := selF (newB l v o i) (fn bal) bal.length
def fitB (l : List Nd) (v : Vt) (bal : List UInt64) : Bool := decide (MayT l) && (mayV v && (mayB bal && decide (v.l.length = bal.length)))
def ownL (l : List Nd) (v : Vt) (bal : List UInt64) : List UInt64 := if fitB l v bal = true then zcd (ownF l v bal) l.length else []
def wtsL (l : List Nd) (v : Vt) (bal : List UInt64) : List UInt64 := if fitB l v bal = true then subL l (ownL l v bal) else []
def ofB (l : List Nd) (was is : Vt) (bal : List UInt64) : Bool := fitB l was bal && fitB l is bal
def zo0 (l : List Nd) (was is : Vt) (bal : List UInt64) : List UInt64 := if ofB l was is bal = true then zcd (zsa l is was bal) l.length else []
def zh1 (l : List Nd) (was is : Vt) (bal : List UInt64) : List UInt64 := if ofB l was is bal = true then zcd (zsa l was is bal) l.length else []
section
variable {l : List Nd} {v o was is : Vt} {bal : List UInt64}
theorem zd5 : fitB l v bal = true ↔ MayT l ∧ mayV v = true ∧ mayB bal = true ∧ v.l.length = bal.length := by
 unfold fitB
 rw [Bool.and_eq_true, Bool.and_eq_true, Bool.and_eq_true, decide_eq_true_iff, decide_eq_true_iff]
theorem z6u : ofB l was is bal = true ↔ fitB l was bal = true ∧ fitB l is bal = true := by unfold ofB; rw [Bool.and_eq_true]
theorem zlv (h : fitB l v bal = true) : ownL l v bal = zcd (ownF l v bal) l.length := by unfold ownL; rw [if_pos h]
theorem z62 (h : fitB l v bal = false) : ownL l v bal = [] := by unfold ownL; rw [if_neg (by rw [h]; exact Bool.false_ne_true)]
theorem zsr (h : fitB l v bal = true) : wtsL l v bal = subL l (ownL l v bal) := by unfold wtsL; rw [if_pos h]
theorem z8r (h : fitB l v bal = false) : wtsL l v bal = [] := by unfold wtsL; rw [if_neg (by rw [h]; exact Bool.false_ne_true)]
theorem zub (h : ofB l was is bal = true) : zo0 l was is bal = zcd (zsa l is was bal) l.length := by unfold zo0; rw [if_pos h]
theorem zzh (h : ofB l was is bal = false) : zo0 l was is bal = [] := by unfold zo0; rw [if_neg (by rw [h]; exact Bool.false_ne_true)]
theorem z1j (h : ofB l was is bal = true) : zh1 l was is bal = zcd (zsa l was is bal) l.length := by unfold zh1; rw [if_pos h]
theorem z6c (h : ofB l was is bal = false) : zh1 l was is bal = [] := by unfold zh1; rw [if_neg (by rw [h]; exact Bool.false_ne_true)]
theorem yek (h : mayB bal = true) {k : Nat} (hk : k ≤ bal.length) : sumF (fn bal) k ≤ 8796093022208 := by
 obtain ⟨_, h2, h3⟩ := zb7.1 h
 have := zqm (f := fn bal) (B := 1099511627776) k (fun j hj => h3 j (by omega))
 omega
theorem zjn (h : mayB bal = true) (p : Nat → Bool) {k : Nat} (hk : k ≤ bal.length) : selF p (fn bal) k ≤ 8796093022208 := Nat.le_trans (ygv _ _ _) (yek h hk)
theorem zt9 (h : mayB bal = true) (i : Nat) : ownF l v bal i ≤ 8796093022208 := zjn h _ (Nat.le_refl _)
theorem yjh (h : fitB l v bal = true) {i : Nat} (hi : i < l.length) : fn (ownL l v bal) i = ownF l v bal i := by
 rw [zlv h]
 exact zv6 hi (by have := zt9 (l := l) (v := v) (zd5.1 h).2.2.1 i; omega)
theorem ygl (h : fitB l v bal = true) : (ownL l v bal).length = l.length := by rw [zlv h, zdg]
theorem z8t (h : fitB l v bal = true) : zez l (ownL l v bal) = true :=
 zxt (zd5.1 h).1 (ygl h) (b := 8796093022208) (by omega) fun k hk => by rw [yjh h hk]; exact zt9 (zd5.1 h).2.2.1 k
theorem z8s (h : fitB l v bal = true) : (wtsL l v bal).length = l.length := by rw [zsr h, zsd (z8t h)]
end
structure Lk where
 s : Ck
 t : Ck
 mask : UInt64
def oneB (a b : Lk) : Bool := decide (a.s = b.s ∧ a.t = b.t)
def lkAt (ls : List Lk) (i : Nat) : Lk := ls.getD i ⟨zcc, zcc, 0⟩
section
variable {ls : List Lk}
end
def zbz (l : List Nd) (c d : Ck) : Bool := zbp l (zaz l d.root) (zaz l c.root)
section
variable {l : List Nd}
theorem zsv {c d : Ck} (h : zbz l c d = true) : ∃ i k : Nat, MayT l ∧ zaz l d.root = i ∧ zaz l c.root = k ∧ i < l.length ∧ k < l.length ∧ zat l i k = true := by
 unfold zbz zbp at h
 rw [Bool.and_eq_true, Bool.and_eq_true, zb2, zb2] at h
 exact ⟨(zaz l d.root).toNat, (zaz l c.root).toNat, h.1.1.1, by omega, by omega, by omega, by omega, h.2⟩
end
section
variable {l : List Nd} {ls : List Lk} {cnt : Lk → Prop} {b : Ck}
end
section
variable (cnt : Lk → Bool)
def zpu (js : List Ck) (k : Lk) : Bool := cnt k && (decide (k.s ∈ js) && !decide (k.t ∈ js))
def zde (ls : List Lk) (js : List Ck) : Option Lk := ls.find? (zpu cnt js)
def zjb (ls : List Lk) : Nat → List Ck → List Ck
 | 0, js => js
 | f + 1, js => match zde cnt ls js with
  | none => js
  | some k => zjb ls f (js ++ [k.t])
def zoz (ls : List Lk) (js : List Ck) : List Ck := zjb cnt ls ls.length js
def zlg (ls : List Lk) (js : List Ck) : Nat := (ls.filter fun k => !decide (k.t ∈ js)).length
end
section
variable {cnt : Lk → Bool} {ls : List Lk}
theorem zt6 {js : List Ck} {k : Lk} (h : zde cnt ls js = some k) : k ∈ ls ∧ cnt k = true ∧ k.s ∈ js ∧ k.t ∉ js := by
 have h1 := List.find?_some h
 have h2 := List.mem_of_find?_eq_some h
 unfold zpu at h1
 rw [Bool.and_eq_true, Bool.and_eq_true, decide_eq_true_iff, Bool.not_eq_true', decide_eq_false_iff_not] at h1
 exact ⟨h2, h1.1, h1.2.1, h1.2.2⟩
theorem ziy {α : Type} (p q : α → Bool) (hpq : ∀ a, q a = true → p a = true) {x : α} : ∀ (l : List α), x ∈ l → p x = true → q x = false → (l.filter q).length < (l.filter p).length
 | [], hx, _, _ => by cases hx
 | a :: l, hx, h1, h2 => by
  have le : ∀ m : List α, (m.filter q).length ≤ (m.filter p).length := by
   intro m
   induction m with
   | nil => exact Nat.le_refl _
   | cons b m ih =>
    rw [List.filter_cons, List.filter_cons]
    by_cases hq : q b = true
    ·
     rw [if_pos hq, if_pos (hpq b hq), List.length_cons, List.length_cons]; omega
    ·
     rw [if_neg hq]
     split
     ·
      rw [List.length_cons]; omega
     ·
      exact ih
  rw [List.filter_cons, List.filter_cons]
  by_cases e : a = x
  ·
   subst e
   rw [if_pos h1, if_neg (by rw [h2]; exact Bool.false_ne_true), List.length_cons]
   have := le l
   omega
  ·
   have hx' : x ∈ l := (List.mem_cons.1 hx).resolve_left (fun e2 => e e2.symm)
   have ih := ziy p q hpq l hx' h1 h2
   by_cases hq : q a = true
   ·
    rw [if_pos hq, if_pos (hpq a hq), List.length_cons, List.length_cons]; omega
   ·
    rw [if_neg hq]
    split
    ·
     rw [List.length_cons]; omega
    ·
     exact ih
theorem zfo {js : List Ck} {k : Lk} (h : zde cnt ls js = some k) : zlg ls (js ++ [k.t]) < zlg ls js := by
 obtain ⟨h1, _, _, h4⟩ := zt6 h
 refine ziy _ _ (fun a ha => ?_) ls h1 ?_ ?_
 ·
  rw [Bool.not_eq_true', decide_eq_false_iff_not] at *
  exact fun e => ha (List.mem_append_left _ e)
 ·
  rw [Bool.not_eq_true', decide_eq_false_iff_not]; exact h4
 ·
  rw [Bool.not_eq_false', decide_eq_true_iff]; simp
theorem zwv (js : List Ck) : zlg ls js ≤ ls.length := List.length_filter_le _ _
theorem zdz {js : List Ck} (h : zde cnt ls js = none) (f : Nat) : zjb cnt ls f js = js := by
 cases f with
 | zero => rfl
 | succ f => simp only [zjb, h]
theorem zt2 : ∀ (f g : Nat) (js : List Ck), zlg ls js ≤ f → zlg ls js ≤ g → zjb cnt ls f js = zjb cnt ls g js
 | 0, g, js, h, _ => by
  cases e : zde cnt ls js with
  | none => rw [zdz e, zdz e]
  | some k => have := zfo e; omega
 | f + 1, 0, js, _, h => by
  cases e : zde cnt ls js with
  | none => rw [zdz e, zdz e]
  | some k => have := zfo e; omega
 | f + 1, g + 1, js, h1, h2 => by
  cases e : zde cnt ls js with
  | none => rw [zdz e, zdz e]
  | some k =>
   have := zfo e
   simp only [zjb, e]
   exact zt2 f g _ (by omega) (by omega)
theorem zt3 {js : List Ck} {k : Lk} (h : zde cnt ls js = some k) : zoz cnt ls js = zoz cnt ls (js ++ [k.t]) := by
 have := zfo h
 have h1 := zwv (ls := ls) js
 obtain ⟨f, hf⟩ : ∃ f, ls.length = f + 1 := ⟨ls.length - 1, by omega⟩
 unfold zoz
 rw [hf]
 rw [show zjb cnt ls (f + 1) js = zjb cnt ls f (js ++ [k.t]) by simp only [zjb, h]]
 exact zt2 _ _ _ (by omega) (by omega)
theorem zkh : ∀ (f : Nat) (js : List Ck), ∃ ext, zjb cnt ls f js = js ++ ext ∧ ∀ i, i < ext.length → ∃ k, k ∈ ls ∧ cnt k = true ∧ k.s ∈ js ++ ext.take i ∧ some k.t = ext[i]? ∧ k.t ∉ js ++ ext.take i
 | 0, js => ⟨[], by simp [zjb], fun i hi => by simp at hi⟩
 | f + 1, js => by
  cases e : zde cnt ls js with
  | none => exact ⟨[], by simp [zjb, e], fun i hi => by simp at hi⟩
  | some k =>
   obtain ⟨h1, h2, h3, h4⟩ := zt6 e
   obtain ⟨ext, he, hall⟩ := zkh f (js ++ [k.t])
   refine ⟨k.t :: ext, by simp only [zjb, e]; rw [he]; simp, fun i hi => ?_⟩
   cases i with
   | zero => exact ⟨k, h1, h2, by simpa using h3, rfl, by simpa using h4⟩
   | succ i =>
    obtain ⟨m, a, b, c, d, g⟩ := hall i (by simpa using hi)
    exact ⟨m, a, b, by simpa using c, by simpa using d, by simpa using g⟩
def zfa (cnt : Lk → Bool) (ls : List Lk) (js : List Ck) (c : Ck) : Bool := ls.any fun k => cnt k && (decide (k.t ∈ js) && (decide (k.s = c) && decide (k.t.epoch.toNat = c.epoch.toNat + 1)))
def zv4 (cnt : Lk → Bool) (ls : List Lk) (js : List Ck) : List Ck := js.filter (zfa cnt ls js)
def betC (lt : Rt → Rt → Bool) (a b : Ck) : Bool := decide (a.epoch.toNat < b.epoch.toNat) || (decide (b.epoch = a.epoch) && lt a.root b.root)
def zfh (lt : Rt → Rt → Bool) (ok : Ck → Bool) : List Ck → Ck → Ck
 | [], o => o
 | c :: cs, o => zfh lt ok cs (if (ok c && betC lt o c) = true then c else o)
theorem zj1 (lt : Rt → Rt → Bool) (ok : Ck → Bool) : ∀ (cs : List Ck) (o : Ck), (zfh lt ok cs o = o ∨ (zfh lt ok cs o ∈ cs ∧ ok (zfh lt ok cs o) = true)) ∧ o.epoch.toNat ≤ (zfh lt ok cs o).epoch.toNat ∧ ∀ c, c ∈ cs → ok c = true → c.epoch.toNat ≤ (zfh lt ok cs o).epoch.toNat
 | [], o => ⟨.inl rfl, Nat.le_refl _, fun c hc => (by cases hc)⟩
 | c :: cs, o => by
  rw [show zfh lt ok (c :: cs) o = zfh lt ok cs (if (ok c && betC lt o c) = true then c else o) from rfl]
  by_cases h : (ok c && betC lt o c) = true
  ·
   rw [if_pos h]
   rw [Bool.and_eq_true] at h
   have hle : o.epoch.toNat ≤ c.epoch.toNat := by
    have := h.2
    unfold betC at this
    rw [Bool.or_eq_true, Bool.and_eq_true, decide_eq_true_iff, decide_eq_true_iff] at this
    rcases this with e | e
    ·
     omega
    ·
     rw [e.1]; exact Nat.le_refl _
   obtain ⟨h1, h2, h3⟩ := zj1 lt ok cs c
   refine ⟨.inr ?_, by omega, fun d hd hok => ?_⟩
   ·
    rcases h1 with e | e
    ·
     rw [e]; exact ⟨List.mem_cons_self, h.1⟩
    ·
     exact ⟨List.mem_cons_of_mem _ e.1, e.2⟩
   ·
    rcases List.mem_cons.1 hd with rfl | hd
    ·
     exact h2
    ·
     exact h3 d hd hok
  ·
   rw [if_neg h]
   obtain ⟨h1, h2, h3⟩ := zj1 lt ok cs o
   refine ⟨h1.imp id fun e => ⟨List.mem_cons_of_mem _ e.1, e.2⟩, h2, fun d hd hok => ?_⟩
   rcases List.mem_cons.1 hd with rfl | hd
   ·
    have : betC lt o d = false := by
     rw [← Bool.not_eq_true]; intro e; exact h (by rw [hok, e]; rfl)
    unfold betC at this
    rw [Bool.or_eq_false_iff, decide_eq_false_iff_not] at this
    omega
   ·
    exact h3 d hd hok
end
theorem zd6 {ls : List Lk} {i : Nat} (h : i < ls.length) : lkAt ls i = ls[i] := by simp [lkAt, h]
def okK (x : Lk) : Prop := x.s.epoch.toNat < x.t.epoch.toNat ∧ 1 ≤ x.mask.toNat ∧ x.mask.toNat ≤ 255
instance (x : Lk) : Decidable (okK x) := by unfold okK; exact inferInstance
def MayK (l : List Lk) (n : Nat) : Prop := ∀ i, i < n → okK (lkAt l i) ∧ ∀ k, k < i → oneB (lkAt l i) (lkAt l k) = false
instance (l : List Lk) (n : Nat) : Decidable (MayK l n) := by unfold MayK; exact inferInstance
def mayL (l : List Lk) : Bool := decide (MayK l l.length ∧ l.length ≤ 16)
theorem zf9 {l : List Lk} : mayL l = true ↔ MayK l l.length ∧ l.length ≤ 16 := by unfold mayL; rw [decide_eq_true_iff]
theorem ybo {a b : Lk} : oneB a b = true ↔ a.s = b.s ∧ a.t = b.t := by unfold oneB; rw [decide_eq_true_iff]
section
variable {l : List Lk} {s t : Ck} {v : Int}
end
def ckAt (l : List Ck) (i : Nat) : Ck := l.getD i zcc
theorem zy0 {w : World} {a b : Obj} : Below w.heap.size w ((w.alloc a).alloc b) := ((Below.refl _ _).alloc (Nat.le_refl _) _).alloc (by simp) _
theorem zih : (∀ a : Rt, zbh a a = false) ∧ (∀ a b c : Rt, zbh a b = true → zbh b c = true → zbh a c = true) ∧ (∀ a b : Rt, a ≠ b → zbh a b = true ∨ zbh b a = true) := by
 refine ⟨ztu, fun a b c h k => zwe h k, fun a b hab => ?_⟩
 cases h : zbh a b
 ·
  cases k : zbh b a
  ·
   exact absurd (z5x h k) hab
  ·
   exact .inr rfl
 ·
  exact .inl rfl
def zeg (l : List Nd) (ls : List Lk) (bal : List UInt64) : Bool := decide (MayT l) && (mayL ls && mayB bal)
def cntB (l : List Nd) (bal : List UInt64) (k : Lk) : Bool := zbz l k.t k.s && zt4 bal k.mask
def zc3 (l : List Nd) (ls : List Lk) (bal : List UInt64) (js : List Ck) : List Ck := if zeg l ls bal = true then zoz (cntB l bal) ls js else js
def zb1 (l : List Nd) (ls : List Lk) (bal : List UInt64) (js : List Ck) : List Ck := if zeg l ls bal = true then zv4 (cntB l bal) ls js else []
def okN (l : List Nd) (fin c : Ck) : Bool := zbz l c fin && decide (fin.epoch.toNat < c.epoch.toNat)
def znq (l : List Nd) (ls : List Lk) (bal : List UInt64) (js : List Ck) (fin : Ck) : Ck := zfh zbh (okN l fin) (zb1 l ls bal js) fin
def zh5 (l : List Nd) (js : List Ck) (fin : Ck) : Ck := zfh zbh (fun c => zbz l c fin) js fin
section
variable {l : List Nd} {ls : List Lk} {bal : List UInt64} {js : List Ck} {fin : Ck}
theorem zu4 : zeg l ls bal = true ↔ MayT l ∧ mayL ls = true ∧ mayB bal = true := by unfold zeg; rw [Bool.and_eq_true, Bool.and_eq_true, decide_eq_true_iff]
theorem zy6 (h : zeg l ls bal = false) : zc3 l ls bal js = js := by unfold zc3; rw [if_neg (by rw [h]; exact Bool.false_ne_true)]
theorem zjc (h : zeg l ls bal = true) : zc3 l ls bal js = zoz (cntB l bal) ls js := by unfold zc3; rw [if_pos h]
theorem zpq (h : zeg l ls bal = false) : zb1 l ls bal js = [] := by unfold zb1; rw [if_neg (by rw [h]; exact Bool.false_ne_true)]
theorem zmy (h : zeg l ls bal = true) : zb1 l ls bal js = zv4 (cntB l bal) ls js := by unfold zb1; rw [if_pos h]
theorem yay : (zh5 l js fin = fin ∨ (zh5 l js fin ∈ js ∧ zbz l (zh5 l js fin) fin = true ∧ fin.epoch.toNat ≤ (zh5 l js fin).epoch.toNat)) ∧ ∀ c, c ∈ js → zbz l c fin = true → c.epoch.toNat ≤ (zh5 l js fin).epoch.toNat := by
 obtain ⟨h, h2, h3⟩ := zj1 zbh (fun c => zbz l c fin) js fin
 exact ⟨h.imp id fun e => ⟨e.1, e.2, h2⟩, h3⟩
end
section
open Go.RowKit
structure Aa where
 val : Int
 slot : UInt64
 head : Rt
 source : Ck
 target : Ck
def aaL (x : Aa) : List Value := [.int .i64 x.val] ++ ([num x.slot] ++ ((rc x.head).toList ++ ((cc x.source).toList ++ ((cc x.target).toList))))
def aa (x : Aa) : Array Value := (aaL x).toArray
theorem zvj (x : Aa) : (aa x).toList = aaL x := rfl
theorem ydh (x : Aa) : (aaL x).length = 100 := by simp [aaL, zay, zax]
theorem zl8 (x : Aa) : (aa x).size = 100 := by rw [← Array.length_toList, zvj, ydh]
theorem ydi (x : Aa) : ∀ v ∈ aaL x, v.oneCell' = true := by
 intro v hv
 unfold aaL at hv
 simp only [List.mem_append, List.mem_singleton] at hv
 rcases hv with rfl | rfl | hv | hv | hv
 ·
  rfl
 ·
  rfl
 ·
  exact zg5 _ v hv
 ·
  exact zfk _ v (by rw [zbm] at hv; exact hv)
 ·
  exact zfk _ v (by rw [zbm] at hv; exact hv)
@[go_sem] theorem ymq (x : Aa) : okA 100 (.agg (aa x)) = true := by
 show ((aa x).size == 100 && (aa x).all (·.oneCell')) = true
 rw [show (aa x).all (·.oneCell') = true from zdo (ydi x), zl8]; rfl
def zaa : Aa := ⟨0, 0, zr, zcc, zcc⟩
theorem z8v (w : World) : (zeroValue 113).run Tryz.prog w = .ok (.agg (aa zaa)) w := by kernel_rfl
@[go_sem ↓] theorem yly (ρ : Operand → Value) (dst : Option Tmp) (x : Operand) (ty : TypeId) (pos : String) (after : Array Edge) (guard : Option (Nat × Bool)) (w : World) :
  (execOp ρ { dst, op := .load 113 x, type := ty, pos, after, guard }).run Tryz.prog w = zi5 (ldA w (ρ x) 100) w (zbf Tryz.prog ρ { dst, op := .load 113 x, type := ty, pos, after, guard } w) :=
 zbq Tryz.isAgg113 Tryz.sizeOf113 ρ dst x ty pos after guard w
@[go_sem ↓] theorem yk4 (ρ : Operand → Value) (dst : Option Tmp) (x y : Operand) (ty : TypeId) (pos : String) (after : Array Edge) (guard : Option (Nat × Bool)) (w : World) :
  (execOp ρ { dst, op := .store 113 x y, type := ty, pos, after, guard }).run Tryz.prog w = zhv (wrA w (ρ x) 100 && okA 100 (ρ y)) (stA w (ρ x) (ρ y)) (zbf Tryz.prog ρ { dst, op := .store 113 x y, type := ty, pos, after, guard } w) :=
 zbe Tryz.sizeOf113 ρ dst x y ty pos after guard w
@[go_sem ↓] theorem yke (ρ : Operand → Value) (dst : Option Tmp) (ty : TypeId) (pos : String) (after : Array Edge) (guard : Option (Nat × Bool)) (w : World) :
  (execOp ρ { dst, op := .alloc 113, type := ty, pos, after, guard }).run Tryz.prog w = .ok (.value (.pointer (some ⟨w.heap.size, 0, none⟩))) (w.alloc (.cells (aa zaa) 113)) := by
 unfold execOp
 simp only [Instr.alloc, Sem.run_bind, z8v, Result.andThen_ok]
 rfl
theorem zhq : Tryz.prog.underlying 113 = some (.struct (Tryz.prog.fieldsOf 113)) := by kernel_rfl
theorem zm1 : (Tryz.prog.fieldsOf 113).toList.map (fun f => (f.name, f.type, f.offset)) = [("Val", 3, 0), ("Slot", 27, 1), ("Head", 34, 2), ("Source", 36, 34), ("Target", 36, 67)] := by kernel_rfl
attribute [go_sem] zl8
theorem zo7 (x : Aa) : aaL x = ([.int .i64 x.val]) ++ ([num x.slot] ++ ((rc x.head).toList ++ ((cc x.source).toList ++ ((cc x.target).toList)))) ∧ ([.int .i64 x.val] : List Value).length = 1 := by
 constructor
 ·
  unfold aaL; simp
 ·
  simp
theorem zo8 {w : World} {b off : Nat} {x : Aa} (h : w.rangeAt b off (aaL x)) : w.cell? ⟨b, off + 1, none⟩ = some (num x.slot) := zbj h (zo7 x).1 (zo7 x).2
theorem zl7 {w : World} {g : Nat} {t : TypeId} {fr : Nat × Nat} {x : Aa} (h : w.heap[g]? = some (.cells (aa x) t fr)) : w.cell? ⟨g, 1, none⟩ = some (num x.slot) := by have := zo8 (x := x) (zak h); rwa [Nat.zero_add] at this
theorem zpd : Tryz.prog.cellsOf 113 = 100 := by kernel_rfl
section
open Go.WideShapes Go.ChangeShapes
variable {H : Type} {enc : TypeId × Value → H} {w : World} {base : Nat} {sp : Nat → Bool} {held : Bool}
theorem z9y {fuel : Nat} {cs : List Value} {x : DataW H × List MemPlace} (hl : cs.length = 100) (h : DataW.trod enc Tryz.prog w base sp held fuel 113 cs = some x) : ∃ a : Aa, cs = aaL a := by
 obtain ⟨_, _, h0⟩ := zav (i := 0) zhq zm1 rfl h
 rw [zfz] at h0
 obtain ⟨a0, e0⟩ := zis h0
 obtain ⟨_, _, h1⟩ := zav (i := 1) zhq zm1 rfl h
 rw [zb9] at h1
 obtain ⟨a1, e1⟩ := zcy h1
 obtain ⟨_, _, h2⟩ := zav (i := 2) zhq zm1 rfl h
 rw [zcr] at h2
 obtain ⟨a2, e2⟩ := zdr h2
 obtain ⟨_, _, h3⟩ := zav (i := 3) zhq zm1 rfl h
 rw [zbw] at h3
 obtain ⟨a3, e3⟩ := ze5 (by rw [List.length_take, List.length_drop]; omega) h3
 rw [← zbm] at e3
 obtain ⟨_, _, h4⟩ := zav (i := 4) zhq zm1 rfl h
 rw [zbw] at h4
 obtain ⟨a4, e4⟩ := ze5 (by rw [List.length_take, List.length_drop]; omega) h4
 rw [← zbm] at e4
 refine ⟨⟨a0, a1, a2, a3, a4⟩, ?_⟩
 unfold aaL
 have j0 := za9 cs 0 1
 rw [e0] at j0
 have j1 := za9 cs 1 1
 rw [e1] at j1
 have j2 := za9 cs 2 32
 rw [e2] at j2
 have j3 := za9 cs 34 33
 rw [e3] at j3
 have j4 := za9 cs 67 33
 rw [e4] at j4
 have jl : cs.drop 100 = [] := List.drop_of_length_le (by omega)
 rw [show (67 + 33) = 100 from rfl, jl, List.append_nil] at j4
 rw [← List.drop_zero (l := cs)]
 rw [← j0]
 rw [show cs.drop (0 + 1) = cs.drop 1 from rfl, ← j1]
 rw [show cs.drop (1 + 1) = cs.drop 2 from rfl, ← j2]
 rw [show cs.drop (2 + 32) = cs.drop 34 from rfl, ← j3]
 rw [show cs.drop (34 + 33) = cs.drop 67 from rfl, ← j4]
 try rfl
end
def Eaa : Lie Aa := ⟨113, 100, aaL, by decide, ydh, ydi⟩
attribute [irreducible] aa
end
def att (l : List Aa) (i : Nat) : Aa := l.getD i zaa
def slA (l : List Aa) (i : Nat) : Nat := (att l i).slot.toNat
def MayA (l : List Aa) : Prop := l.length ≤ 6 ∧ ∀ i, i < l.length → slA l i ≤ 1099511627776
instance (l : List Aa) : Decidable (MayA l) := by unfold MayA; exact inferInstance
def mayA (l : List Aa) : Bool := decide (MayA l)
def zq9 (now : Nat) (a : Aa) : Bool := decide (a.slot.toNat < now)
def dueL (l : List Aa) (now : Nat) : List Aa := l.filter (zq9 now)
def zig (l : List Aa) (now : Nat) : List Aa := l.filter fun a => !zq9 now a
section
variable {l k : List Aa} {a : Aa} {now later : Nat}
theorem zim {i : Nat} (h : i < l.length) : att l i = l[i] := by unfold att; simp [h]
theorem zlu : mayA l = true ↔ l.length ≤ 6 ∧ ∀ i, i < l.length → slA l i ≤ 1099511627776 := by unfold mayA; rw [decide_eq_true_iff]; rfl
theorem ybb : mayA l = true ↔ l.length ≤ 6 ∧ ∀ a, a ∈ l → a.slot.toNat ≤ 1099511627776 := by
 rw [zlu]
 refine and_congr Iff.rfl ⟨fun h a ha => ?_, fun h i hi => ?_⟩
 ·
  obtain ⟨i, hi, rfl⟩ := List.getElem_of_mem ha
  have := h i hi
  unfold slA at this
  rwa [zim hi] at this
 ·
  unfold slA
  rw [zim hi]
  exact h _ (List.getElem_mem hi)
theorem z4q : dueL (l ++ k) now = dueL l now ++ dueL k now := List.filter_append ..
theorem zzm : zig (l ++ k) now = zig l now ++ zig k now := List.filter_append ..
theorem z4r : (dueL l now).length + (zig l now).length = l.length := by
 unfold dueL zig
 induction l with
 | nil => rfl
 | cons a l ih =>
  simp only [List.filter_cons]
  cases zq9 now a <;> simp <;> omega
theorem yig : (dueL l now).length ≤ l.length := by have := z4r (l := l) (now := now); omega
theorem ygq : (zig l now).length ≤ l.length := by have := z4r (l := l) (now := now); omega
theorem z7t (h : ¬ a.slot.toNat < now) : zig (l ++ [a]) now = zig l now ++ [a] := by
 rw [zzm]
 congr 1
 unfold zig zq9
 simp [h]
theorem yaf (h : a.slot.toNat < now) : dueL (l ++ [a]) now = dueL l now ++ [a] := by
 rw [z4q]
 congr 1
 unfold dueL zq9
 simp [h]
end
structure Bk where
 root : Rt
 parent : Rt
 slot : UInt64
 just : UInt64
structure Eg where
 t : List Nd
 bal : List UInt64
 v : Vt
 w : List UInt64
 late : List Aa
 k : List Lk
 j : List Ck
 fin : Ck
 now : UInt64
def inT (l : List Nd) (r : Rt) : Bool := decide (0 ≤ zaz l r)
def MayG (e : Eg) : Prop :=
 (MayT e.t ∧ mayB e.bal = true ∧ mayV e.v = true ∧ mayA e.late = true ∧ mayL e.k = true ∧ e.v.l.length = e.bal.length ∧ e.now.toNat ≤ 1099511627776) ∧
 e.w = wtsL e.t e.v e.bal ∧ (∀ a, a ∈ e.late → e.now.toNat ≤ a.slot.toNat) ∧ e.fin ∈ e.j ∧ e.j.Nodup ∧ (∀ c, c ∈ e.j → inT e.t c.root = true) ∧
 (∀ i, i < e.v.l.length → (lat e.v.l i).has = true → inT e.t (lat e.v.l i).root = true) ∧ (∀ x, x ∈ e.k → inT e.t x.s.root = true ∧ inT e.t x.t.root = true) ∧
 zc3 e.t e.k e.bal e.j = e.j ∧ znq e.t e.k e.bal e.j e.fin = e.fin
instance (e : Eg) : Decidable (MayG e) := by unfold MayG; exact inferInstance
def mayG (e : Eg) : Bool := decide (MayG e)
def newG (r : Rt) (bal : List UInt64) : Eg := ⟨[⟨r, -1, 0, 0⟩], bal, newV bal.length, [0], [], [], [⟨0, r⟩], ⟨0, r⟩, 0⟩
def prT (e : Eg) : List Nd := cutZ e.t (zaz e.t e.fin.root)
section
variable {e : Eg}
theorem mayG_iff : mayG e = true ↔ MayG e := by unfold mayG; rw [decide_eq_true_iff]
theorem z5m {l : List Nd} {r : Rt} : inT l r = true ↔ 0 ≤ zaz l r := by unfold inT; rw [decide_eq_true_iff]
theorem yfo {l : List Nd} {r : Rt} (h : MayT l) : inT l r = true ↔ ∃ i, i < l.length ∧ (nd l i).root = r := by
 rw [z5m]
 rcases zcs h r with ⟨i, hi, e1, e2⟩ | ⟨e1, e2⟩
 ·
  exact ⟨fun _ => ⟨i, hi, e2⟩, fun _ => by omega⟩
 ·
  exact ⟨fun h => by omega, fun ⟨i, hi, h⟩ => absurd h (e2 i hi)⟩
theorem yfp {l : List Nd} {r : Rt} (h : MayT l) (hr : inT l r = true) : ∃ i : Nat, i < l.length ∧ zaz l r = i ∧ (nd l i).root = r := by
 rcases zcs h r with h1 | ⟨e1, _⟩
 ·
  exact h1
 ·
  rw [z5m, e1] at hr; omega
structure MayS' (e : Eg) : Prop where
 t : MayT e.t
 bal : mayB e.bal = true
 v : mayV e.v = true
 late : mayA e.late = true
 k : mayL e.k = true
 vl : e.v.l.length = e.bal.length
 now : e.now.toNat ≤ 1099511627776
 w : e.w = wtsL e.t e.v e.bal
 slots : ∀ a, a ∈ e.late → e.now.toNat ≤ a.slot.toNat
 fin : e.fin ∈ e.j
 nod : e.j.Nodup
 inJ : ∀ c, c ∈ e.j → inT e.t c.root = true
 inV : ∀ i, i < e.v.l.length → (lat e.v.l i).has = true → inT e.t (lat e.v.l i).root = true
 inK : ∀ x, x ∈ e.k → inT e.t x.s.root = true ∧ inT e.t x.t.root = true
 more : zc3 e.t e.k e.bal e.j = e.j
 next : znq e.t e.k e.bal e.j e.fin = e.fin
theorem z6b : MayG e ↔ MayS' e :=
 ⟨fun ⟨⟨h1, h2, h3, h4, h5, h6, h7⟩, h8, h9, h10, h11, h12, h13, h14, h15, h16⟩ => ⟨h1, h2, h3, h4, h5, h6, h7, h8, h9, h10, h11, h12, h13, h14, h15, h16⟩,
  fun h => ⟨⟨h.t, h.bal, h.v, h.late, h.k, h.vl, h.now⟩, h.w, h.slots, h.fin, h.nod, h.inJ, h.inV, h.inK, h.more, h.next⟩⟩
theorem zy4 : mayG e = true ↔ MayS' e := mayG_iff.trans z6b
theorem MayS'.fit (h : MayS' e) : fitB e.t e.v e.bal = true := zd5.2 ⟨h.t, h.v, h.bal, h.vl⟩
end
section
variable {e : Eg} {a : Aa} {b : Bk}
theorem yiw (h : MayS' e) : ∃ i : Nat, i < e.t.length ∧ zaz e.t e.fin.root = i ∧ (nd e.t i).root = e.fin.root ∧ prT e = cutL e.t i := by
 obtain ⟨i, hi, e1, e2⟩ := yfp h.t (h.inJ _ h.fin)
 exact ⟨i, hi, e1, e2, by unfold prT; rw [e1, yaa h.t hi]⟩
end
section
variable (l : List Nd) (lt : Rt → Rt → Bool) (w : Nat → Nat) (leads : Nat → Bool)
def zdb (i k : Nat) : Bool := decide ((nd l k).parent = (i : Int)) && leads k
def zbs (k b : Nat) : Bool := decide (w b < w k) || (decide (w k = w b) && lt (nd l b).root (nd l k).root)
def zvm (i : Nat) : Nat → Option Nat
 | 0 => none
 | n + 1 => match zvm i n with
  | none => if zdb l leads i n = true then some n else none
  | some b => if (zdb l leads i n && zbs l lt w n b) = true then some n else some b
def zgr (i : Nat) : Option Nat := zvm l lt w leads i l.length
def wayF : Nat → Nat → List Nat
 | 0, i => [i]
 | f + 1, i => i :: (match zgr l lt w leads i with | none => [] | some k => wayF f k)
def wayT (i : Nat) : List Nat := wayF l lt w leads (l.length - i) i
def zi1 (i : Nat) : Nat := (wayT l lt w leads i).getLastD i
end
structure Strict (lt : Rt → Rt → Bool) : Prop where
 irr : ∀ a, lt a a = false
 trans : ∀ a b c, lt a b = true → lt b c = true → lt a c = true
 total : ∀ a b, a ≠ b → lt a b = true ∨ lt b a = true
section
variable {l : List Nd} {lt : Rt → Rt → Bool} {w : Nat → Nat} {leads : Nat → Bool}
theorem zpa {k b : Nat} : zbs l lt w k b = true ↔ w b < w k ∨ (w k = w b ∧ lt (nd l b).root (nd l k).root = true) := by
 unfold zbs
 rw [Bool.or_eq_true, Bool.and_eq_true, decide_eq_true_iff, decide_eq_true_iff]
theorem zsw (hs : Strict lt) {k b n : Nat} (h1 : zbs l lt w k b = false) (h2 : zbs l lt w n b = true) : zbs l lt w k n = false := by
 rw [← Bool.not_eq_true] at h1 ⊢
 intro h3
 apply h1
 rw [zpa] at *
 rcases h2 with h2 | ⟨h2, h2'⟩ <;> rcases h3 with h3 | ⟨h3, h3'⟩
 ·
  exact .inl (by omega)
 ·
  exact .inl (by omega)
 ·
  exact .inl (by omega)
 ·
  exact .inr ⟨by omega, hs.trans _ _ _ h2' h3'⟩
theorem zmf (hs : Strict lt) (i : Nat) : ∀ n, (zvm l lt w leads i n = none ∧ ∀ k, k < n → zdb l leads i k = false) ∨ ∃ b, zvm l lt w leads i n = some b ∧ b < n ∧ zdb l leads i b = true ∧ ∀ k, k < n → zdb l leads i k = true → zbs l lt w k b = false
 | 0 => .inl ⟨rfl, fun k hk => by omega⟩
 | n + 1 => by
  have e : zvm l lt w leads i (n + 1) = match zvm l lt w leads i n with
   | none => if zdb l leads i n = true then some n else none
   | some b => if (zdb l leads i n && zbs l lt w n b) = true then some n else some b := rfl
  have self : ∀ b, zbs l lt w b b = false := fun b => by
   rw [← Bool.not_eq_true, zpa]
   rintro (h | ⟨_, h⟩)
   ·
    omega
   ·
    rw [hs.irr] at h; cases h
  rcases zmf hs i n with ⟨e1, hn⟩ | ⟨b, e1, hb, hc, hall⟩
  ·
   rw [e, e1]
   by_cases hc : zdb l leads i n = true
   ·
    refine .inr ⟨n, by simp [hc], by omega, hc, fun k hk hck => ?_⟩
    by_cases hkn : k < n
    ·
     rw [hn k hkn] at hck; cases hck
    ·
     obtain rfl : k = n := by omega
     exact self k
   ·
    refine .inl ⟨by simp [hc], fun k hk => ?_⟩
    by_cases hkn : k < n
    ·
     exact hn k hkn
    ·
     obtain rfl : k = n := by omega
     simpa using hc
  ·
   rw [e, e1]
   by_cases hnb : (zdb l leads i n && zbs l lt w n b) = true
   ·
    have h2 := hnb
    rw [Bool.and_eq_true] at h2
    refine .inr ⟨n, by simp [h2.1, h2.2], by omega, h2.1, fun k hk hck => ?_⟩
    by_cases hkn : k < n
    ·
     exact zsw hs (hall k hkn hck) h2.2
    ·
     obtain rfl : k = n := by omega
     exact self k
   ·
    refine .inr ⟨b, by simp only []; rw [if_neg hnb], by omega, hc, fun k hk hck => ?_⟩
    by_cases hkn : k < n
    ·
     exact hall k hkn hck
    ·
     obtain rfl : k = n := by omega
     rw [Bool.and_eq_true] at hnb
     rw [← Bool.not_eq_true]
     exact fun h => hnb ⟨hck, h⟩
theorem zio (hs : Strict lt) {i k : Nat} (e : zgr l lt w leads i = some k) : k < l.length ∧ (nd l k).parent = (i : Int) ∧ leads k = true ∧ ∀ j, j < l.length → (nd l j).parent = (i : Int) → leads j = true → zbs l lt w j k = false := by
 rcases zmf (w := w) (leads := leads) hs i l.length with ⟨e1, _⟩ | ⟨b, e1, hb, hc, hall⟩
 ·
  unfold zgr at e; rw [e1] at e; cases e
 ·
  unfold zgr at e
  rw [e1] at e
  obtain rfl := Option.some.inj e
  unfold zdb at hc
  rw [Bool.and_eq_true, decide_eq_true_iff] at hc
  exact ⟨hb, hc.1, hc.2, fun j hj hp hl => hall j hj (by unfold zdb; rw [hl, Bool.and_true, decide_eq_true_iff]; exact hp)⟩
theorem z9k (hs : Strict lt) {i : Nat} (hn : ∀ k, k < l.length → (nd l k).parent = (i : Int) → leads k = false) : zgr l lt w leads i = none := by
 cases e : zgr l lt w leads i with
 | none => rfl
 | some k =>
  obtain ⟨h1, h2, h3, _⟩ := zio hs e
  rw [hn k h1 h2] at h3; cases h3
theorem zj4 (hs : Strict lt) (h : MayT l) {i k : Nat} (e : zgr l lt w leads i = some k) : i < k ∧ k < l.length ∧ zat l i k = true := by
 obtain ⟨h1, h2, _⟩ := zio hs e
 have hm := zy5.2 ⟨h1, h2⟩
 obtain ⟨h3, _, h5⟩ := yav h hm
 refine ⟨h3, h1, (zby h i (by omega) h1).2 (.inr ?_)⟩
 rw [h5]; exact zcn h (by omega)
theorem yc6 (hs : Strict lt) (h : MayT l) : ∀ (d i : Nat), l.length - i = d → i < l.length → ∀ f, l.length - i ≤ f → wayF l lt w leads f i = wayF l lt w leads (l.length - i) i := by
 intro d
 induction d using Nat.strongRecOn with
 | _ d ih =>
  intro i hd hi f hf
  obtain ⟨f', rfl⟩ : ∃ f', f = f' + 1 := ⟨f - 1, by omega⟩
  obtain ⟨g, hg⟩ : ∃ g, l.length - i = g + 1 := ⟨l.length - i - 1, by omega⟩
  rw [hg]
  simp only [wayF]
  cases e : zgr l lt w leads i with
  | none => rfl
  | some k =>
   obtain ⟨h1, h2, _⟩ := zj4 hs h e
   simp only []
   rw [ih (l.length - k) (by omega) k rfl h2 f' (by omega), ih (l.length - k) (by omega) k rfl h2 g (by omega)]
theorem zl4 {i : Nat} (e : zgr l lt w leads i = none) : wayT l lt w leads i = [i] := by
 unfold wayT
 cases l.length - i with
 | zero => rfl
 | succ f => simp only [wayF, e]
theorem zl5 (hs : Strict lt) (h : MayT l) {i k : Nat} (e : zgr l lt w leads i = some k) : wayT l lt w leads i = i :: wayT l lt w leads k := by
 obtain ⟨h1, h2, _⟩ := zj4 hs h e
 unfold wayT
 obtain ⟨g, hg⟩ : ∃ g, l.length - i = g + 1 := ⟨l.length - i - 1, by omega⟩
 rw [hg]
 simp only [wayF, e]
 rw [yc6 hs h _ k rfl h2 g (by omega)]
theorem zju (i : Nat) : ∃ r, wayT l lt w leads i = i :: r := by
 unfold wayT
 cases l.length - i with
 | zero => exact ⟨[], rfl⟩
 | succ f => exact ⟨_, rfl⟩
theorem z5k {i : Nat} (e : zgr l lt w leads i = none) : zi1 l lt w leads i = i := by unfold zi1; rw [zl4 e]; rfl
theorem ztg (hs : Strict lt) (h : MayT l) {i k : Nat} (e : zgr l lt w leads i = some k) : zi1 l lt w leads i = zi1 l lt w leads k := by
 unfold zi1
 rw [zl5 hs h e]
 obtain ⟨r, hr⟩ := zju (l := l) (lt := lt) (w := w) (leads := leads) k
 rw [hr]
 rfl
theorem yaz (hs : Strict lt) (h : MayT l) : ∀ (d i : Nat), l.length - i = d → i < l.length → zi1 l lt w leads i < l.length ∧ zat l i (zi1 l lt w leads i) = true ∧ zgr l lt w leads (zi1 l lt w leads i) = none ∧ (zi1 l lt w leads i ≠ i → leads (zi1 l lt w leads i) = true) := by
 intro d
 induction d using Nat.strongRecOn with
 | _ d ih =>
  intro i hd hi
  cases e : zgr l lt w leads i with
  | none => rw [z5k e]; exact ⟨hi, zcn h hi, e, fun hne => absurd rfl hne⟩
  | some k =>
   obtain ⟨h1, h2, h3⟩ := zj4 hs h e
   rw [ztg hs h e]
   obtain ⟨a, b, c, f⟩ := ih (l.length - k) (by omega) k rfl h2
   refine ⟨a, zh4 h h3 _ a b, c, fun _ => ?_⟩
   by_cases hk : zi1 l lt w leads k = k
   ·
    rw [hk]; exact (zio hs e).2.2.1
   ·
    exact f hk
theorem z8o (hs : Strict lt) (h : MayT l) : ∀ (d i : Nat), l.length - i = d → i < l.length → (∀ j, j < (wayT l lt w leads i).length → (wayT l lt w leads i).getD j 0 < l.length ∧ zi1 l lt w leads ((wayT l lt w leads i).getD j 0) = zi1 l lt w leads i ∧ i ≤ (wayT l lt w leads i).getD j 0) ∧ (∀ j, j + 1 < (wayT l lt w leads i).length → zgr l lt w leads ((wayT l lt w leads i).getD j 0) = some ((wayT l lt w leads i).getD (j + 1) 0)) ∧ (wayT l lt w leads i).length ≤ l.length - i := by
 intro d
 induction d using Nat.strongRecOn with
 | _ d ih =>
  intro i hd hi
  cases e : zgr l lt w leads i with
  | none =>
   rw [zl4 e]
   refine ⟨fun j hj => ?_, fun j hj => ?_, ?_⟩
   ·
    obtain rfl : j = 0 := by simpa using hj
    exact ⟨hi, rfl, Nat.le_refl _⟩
   ·
    simp at hj
   ·
    simp; omega
  | some k =>
   obtain ⟨h1, h2, _⟩ := zj4 hs h e
   obtain ⟨a, b, c⟩ := ih (l.length - k) (by omega) k rfl h2
   rw [zl5 hs h e]
   refine ⟨fun j hj => ?_, fun j hj => ?_, ?_⟩
   ·
    cases j with
    | zero => exact ⟨hi, rfl, Nat.le_refl _⟩
    | succ j =>
     obtain ⟨x, y, z⟩ := a j (by simpa using hj)
     rw [List.getD_cons_succ]
     exact ⟨x, by rw [y, ztg hs h e], by omega⟩
   ·
    cases j with
    | zero =>
     obtain ⟨r, hr⟩ := zju (l := l) (lt := lt) (w := w) (leads := leads) k
     rw [List.getD_cons_succ, hr]
     exact e
    | succ j =>
     rw [List.getD_cons_succ, List.getD_cons_succ]
     exact b j (by simpa using hj)
   ·
    rw [List.length_cons]; omega
end
end Go.Proofs.YtkalofboioffiaaGreat
